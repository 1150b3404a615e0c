package sweep_test

import (
	"crypto/sha256"
	"encoding/hex"
	"fmt"
	"slices"
	"strings"
	"testing"

	"stemma/api"
	"stemma/file"
	"stemma/graph"
	"stemma/nums"
	"stemma/object"
	"stemma/pack"
	"stemma/sector"
	"stemma/shelf"
	"stemma/sweep"
)

// idOf returns the ID of a text; nothing here asks package sha.
func idOf(data string) string {
	x := sha256.Sum256([]byte(data))
	return string(x[:])
}

// idsOf returns the IDs of texts, in ascending order.
func idsOf(texts ...string) []string {
	var ids []string
	for _, data := range texts {
		ids = append(ids, idOf(data))
	}
	slices.Sort(ids)
	return ids
}

// looseName returns the name of the file of an ID.
func looseName(id string) string { return "o" + hex.EncodeToString([]byte(id)) }

// named returns the name of the file of some pack, other than its digest says.
func named(c byte) string { return "p" + hex.EncodeToString(slices.Repeat([]byte{c}, 32)) }

// encoded returns the text of an object that must be one.
func encoded(o object.Object) string {
	s, err := object.Encode(o)
	if err != api.OK {
		panic(fmt.Sprintf("%v: %d", o, err))
	}
	return s
}

func blob(body string) string { return encoded(object.Object{Kind: object.Blob, Body: body}) }

// tree returns the text of a tree of these IDs.
func tree(ids ...string) string {
	o := object.Object{Kind: object.Tree}
	for i, id := range ids {
		o.Entries = append(o.Entries, object.Entry{Name: fmt.Sprintf("f%05d", i), ID: id})
	}
	return encoded(o)
}

// commit returns the text of a commit of a tree, with these parents.
func commit(time int, tree string, parents ...string) string {
	return encoded(object.Object{Kind: object.Commit, Tree: tree, Parents: parents, Author: "me", Text: "why", Time: time})
}

func tag(name, target string) string {
	return encoded(object.Object{Kind: object.Tag, Target: target, Name: name})
}

// onePack returns a pack of one item that is a whole one.
func onePack(id, data string) string {
	body := "PK\x01" + id + "\x00" + nums.Join(data)
	return body + idOf(body)
}

// brokenPack returns a pack of one item whose base does not exist.
func brokenPack(id string) string {
	body := "PK\x01" + id + "\x01" + idOf("no such base") + nums.Join("\x00\x00")
	return body + idOf(body)
}

// ok says that a call must have succeeded, and ends the test if not.
func ok(t *testing.T, what string, err api.Errno) {
	t.Helper()
	if err != api.OK {
		t.Fatalf("%s: error %d", what, err)
	}
}

// mount mounts a disk.
func mount(t *testing.T, d *sector.Disk) *file.Store {
	t.Helper()
	f, err := file.Mount(d)
	ok(t, "Mount", err)
	return f
}

// open opens the shelf of files.
func open(t *testing.T, f *file.Store) *shelf.Shelf {
	t.Helper()
	s, err := shelf.Open(f)
	ok(t, "Open", err)
	return s
}

// fresh returns a shelf with these texts, each in a file of its own, with its files and its disk.
func fresh(t *testing.T, texts ...string) (*shelf.Shelf, *file.Store, *sector.Disk) {
	t.Helper()
	d, err := sector.New(1000)
	ok(t, "New", err)
	ok(t, "Format", file.Format(d, 60))
	f := mount(t, d)
	s := open(t, f)
	stored(t, s, texts...)
	return s, f, d
}

// packed returns a shelf with these texts in one pack, on a disk of n sectors for so many files, with its files and its disk.
func packed(t *testing.T, n, files int, texts ...string) (*shelf.Shelf, *file.Store, *sector.Disk) {
	t.Helper()
	d, err := sector.New(n)
	ok(t, "New", err)
	ok(t, "Format", file.Format(d, files))
	f := mount(t, d)
	p, err := pack.Make(texts)
	ok(t, "Make", err)
	ok(t, "Write", f.Write(named(1), p))
	return open(t, f), f, d
}

// stored puts texts that must be taken.
func stored(t *testing.T, s *shelf.Shelf, texts ...string) {
	t.Helper()
	for _, data := range texts {
		if id, err := s.Put(data); id != idOf(data) || err != api.OK {
			t.Fatalf("Put: %x, %d", id, err)
		}
	}
}

// off switches the power of a disk off.
func off(d *sector.Disk) {
	d.Cut(1)
	d.Sync()
}

// content returns the bytes of all sectors, and how many commands made them so.
func content(t *testing.T, d *sector.Disk) ([]string, int) {
	t.Helper()
	l := make([]string, d.Size())
	for i := range l {
		s, err := d.Read(i)
		ok(t, "Read", err)
		l[i] = s
	}
	n, _ := d.Counts()
	return l, n
}

// lay makes the sectors of a disk durable as they are in l.
func lay(d *sector.Disk, l []string) {
	for i, s := range l {
		d.Spoil(i, s)
	}
}

// unchanged says that a call must write nothing.
func unchanged(t *testing.T, what string, d *sector.Disk, call func()) {
	t.Helper()
	before, n := content(t, d)
	call()
	if after, m := content(t, d); m != n || !slices.Equal(after, before) {
		t.Errorf("%s: the disk has changed", what)
	}
}

// reaches says what Reach must return, with OK.
func reaches(t *testing.T, what string, s *shelf.Shelf, roots []string, want ...string) {
	t.Helper()
	slices.Sort(want)
	if l, err := sweep.Reach(s, roots); err != api.OK || !slices.Equal(l, want) {
		t.Errorf("%s: Reach: %.8x, %d; want %.8x", what, l, err, want)
	}
	if l := sweep.Check(s, roots); len(l) != 0 {
		t.Errorf("%s: Check: %s", what, told(l))
	}
}

// refuses says that Reach, Commits and Collect must have an error, and what Check must return.
func refuses(t *testing.T, what string, s *shelf.Shelf, roots []string, want api.Errno, faults ...sweep.Fault) {
	t.Helper()
	if l, err := sweep.Reach(s, roots); len(l) != 0 || err != want {
		t.Errorf("%s: Reach: %.8x, %d; want %d", what, l, err, want)
	}
	if l, err := sweep.Commits(s, roots); len(l) != 0 || err != want {
		t.Errorf("%s: Commits: %v, %d; want %d", what, l, err, want)
	}
	if err := sweep.Collect(s, roots); err != want {
		t.Errorf("%s: Collect: %d; want %d", what, err, want)
	}
	checks(t, what, s, roots, faults...)
}

// checks says what Check must return; the faults are given in any order.
func checks(t *testing.T, what string, s *shelf.Shelf, roots []string, want ...sweep.Fault) {
	t.Helper()
	slices.SortFunc(want, func(a, b sweep.Fault) int { return strings.Compare(a.ID, b.ID) })
	if l := sweep.Check(s, roots); !slices.Equal(l, want) {
		t.Errorf("%s: Check: %s; want %s", what, told(l), told(want))
	}
}

// told returns faults as an error tells them.
func told(l []sweep.Fault) string {
	var b strings.Builder
	for _, x := range l {
		fmt.Fprintf(&b, "[%.8x %d]", x.ID, x.Code)
	}
	return b.String()
}

func sameNodes(a, b []graph.Node) bool {
	return slices.EqualFunc(a, b, func(x, y graph.Node) bool {
		return x.ID == y.ID && x.Time == y.Time && slices.Equal(x.Parents, y.Parents)
	})
}

// opened formats a disk for so many files, and opens its shelf.
func opened(t *testing.T, d *sector.Disk, files int) *shelf.Shelf {
	t.Helper()
	ok(t, "Format", file.Format(d, files))
	return open(t, mount(t, d))
}

// noise returns n bytes, others for each seed and at each place.
func noise(seed, n int) string {
	b := make([]byte, n)
	x := uint32(seed)*2654435761 + 12345
	for i := range b {
		x = x*1664525 + 1013904223
		b[i] = byte(x >> 24)
	}
	return string(b)
}
