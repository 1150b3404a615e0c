package refs_test

import (
	"fmt"
	"hash/crc32"
	"slices"
	"strings"
	"testing"

	"stemma/api"
	"stemma/file"
	"stemma/names"
	"stemma/nums"
	"stemma/refs"
	"stemma/sector"
)

// id returns an ID of one byte.
func id(c byte) string { return strings.Repeat(string([]byte{c}), 32) }

// create returns an update that makes a reference.
func create(name string, c byte) names.Update { return names.Update{Name: name, New: id(c)} }

// one returns updates of one: from an ID to another.
func one(name, old, new string) []names.Update {
	return []names.Update{{Name: name, Old: old, New: new}}
}

// frame returns a frame; nothing here asks package crc.
func frame(kind byte, body string) string {
	s := string([]byte{kind}) + nums.Join(body)
	n := crc32.ChecksumIEEE([]byte(s))
	return s + string([]byte{byte(n), byte(n >> 8), byte(n >> 16), byte(n >> 24)})
}

// whole returns the frame of a table.
func whole(t names.Table) string { return frame(1, names.Encode(t)) }

// fields returns those of updates.
func fields(l []names.Update) []string {
	var s []string
	for _, u := range l {
		s = append(s, u.Name, u.Old, u.New)
	}
	return s
}

// change returns the frame of a change.
func change(l []names.Update, head string) string {
	return frame(2, nums.Join(head, nums.Join(fields(l)...)))
}

// same reports whether two tables are equal, where an empty list may be nil.
func same(a, b names.Table) bool {
	return a.Head == b.Head && slices.Equal(a.Refs, b.Refs) && slices.Equal(a.Log, b.Log)
}

// show returns how a table begins.
func show(t names.Table) string {
	return fmt.Sprintf("%s, %d references and a log of %d: %.300q", t.Head, len(t.Refs), len(t.Log), fmt.Sprint(t))
}

// is says what an error must be.
func is(t *testing.T, what string, err, want api.Errno) {
	t.Helper()
	if err != want {
		t.Errorf("%s: error %d, want %d", what, err, want)
	}
}

// ok says that a call must have succeeded, and ends the test if not.
func ok(t *testing.T, what string, err api.Errno) {
	t.Helper()
	if err != api.OK {
		t.Fatalf("%s: error %d", what, err)
	}
}

// formatted returns a disk of n sectors for so many files.
func formatted(t *testing.T, n, files int) *sector.Disk {
	t.Helper()
	d, err := sector.New(n)
	ok(t, "New", err)
	ok(t, "Format", file.Format(d, files))
	return d
}

// mount mounts a disk.
func mount(t *testing.T, d *sector.Disk) *file.Store {
	t.Helper()
	f, err := file.Mount(d)
	ok(t, "Mount", err)
	return f
}

// open opens the table of files.
func open(t *testing.T, f *file.Store) *refs.Refs {
	t.Helper()
	r, err := refs.Open(f)
	if r == nil || err != api.OK {
		t.Fatalf("Open: %v, %d", r, err)
	}
	return r
}

// fresh returns an empty table on a disk of n sectors for so many files, with both.
func fresh(t *testing.T, n, files int) (*refs.Refs, *file.Store, *sector.Disk) {
	t.Helper()
	d := formatted(t, n, files)
	f := mount(t, d)
	ok(t, "Format", refs.Format(f, "heads/main"))
	return open(t, f), f, d
}

// holding returns a table on a disk of n sectors whose file has that text, with both.
func holding(t *testing.T, n int, text string) (*refs.Refs, *file.Store, *sector.Disk) {
	t.Helper()
	d := formatted(t, n, 4)
	f := mount(t, d)
	ok(t, "Write", f.Write("refs", text))
	return open(t, f), f, d
}

// has says which table there must be, now and after another Open.
func has(t *testing.T, what string, r *refs.Refs, f *file.Store, want names.Table) {
	t.Helper()
	if x := r.Table(); !same(x, want) {
		t.Errorf("%s: the table is %s, want %s", what, show(x), show(want))
	}
	if x := open(t, f).Table(); !same(x, want) {
		t.Errorf("%s: opened again: the table is %s, want %s", what, show(x), show(want))
	}
}

// text returns the content of the file.
func text(t *testing.T, f *file.Store) string {
	t.Helper()
	s, err := f.Read("refs")
	ok(t, "Read", err)
	return s
}

// off switches the power of a disk off.
func off(d *sector.Disk) {
	d.Cut(1)
	d.Sync()
}

// commands returns how many modifying commands a disk has executed.
func commands(d *sector.Disk) int {
	n, _ := d.Counts()
	return n
}

// content returns the bytes of all sectors.
func content(t *testing.T, d *sector.Disk) []string {
	t.Helper()
	l := make([]string, d.Size())
	for i := range l {
		s, err := d.Read(i)
		ok(t, "Read", err)
		l[i] = s
	}
	return l
}

// lay makes the sectors of a disk durable as they are in l.
func lay(d *sector.Disk, l []string) {
	for i, s := range l {
		d.Spoil(i, s)
	}
}

// unchanged says that a call must write nothing.
func unchanged(t *testing.T, what string, d *sector.Disk, call func()) {
	t.Helper()
	before, n := content(t, d), commands(d)
	call()
	if commands(d) != n || !slices.Equal(content(t, d), before) {
		t.Errorf("%s: the disk has changed", what)
	}
}
