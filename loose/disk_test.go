package loose_test

import (
	"crypto/sha256"
	"encoding/hex"
	"fmt"
	"slices"
	"testing"

	"stemma/api"
	"stemma/file"
	"stemma/loose"
	"stemma/sector"
)

const maxData = 262208 // MaxBody + 64

// idOf returns the ID of a text; nothing here asks package sha.
func idOf(data string) string {
	x := sha256.Sum256([]byte(data))
	return string(x[:])
}

// nameOf returns the name of the file of a text.
func nameOf(data string) string { return "o" + hex.EncodeToString([]byte(idOf(data))) }

// text returns n bytes, others for each seed and at each place.
func text(seed, n int) string {
	b := make([]byte, n)
	x := uint32(seed)*2654435761 + 12345
	for i := range b {
		x = x*1664525 + 1013904223
		b[i] = byte(x >> 24)
	}
	return string(b)
}

// short returns a text that an error can tell.
func short(s string) string { return fmt.Sprintf("%.20q of %d bytes", s, len(s)) }

// is says what an error must be.
func is(t *testing.T, what string, err, want api.Errno) {
	t.Helper()
	if err != want {
		t.Errorf("%s: error %d, want %d", what, err, want)
	}
}

// ok says that a call must have succeeded, and ends the test if not.
func ok(t *testing.T, what string, err api.Errno) {
	t.Helper()
	if err != api.OK {
		t.Fatalf("%s: error %d", what, err)
	}
}

// formatted returns a disk of n sectors for so many files.
func formatted(t *testing.T, n, files int) *sector.Disk {
	t.Helper()
	d, err := sector.New(n)
	ok(t, "New", err)
	ok(t, "Format", file.Format(d, files))
	return d
}

// mount mounts a disk.
func mount(t *testing.T, d *sector.Disk) *file.Store {
	t.Helper()
	f, err := file.Mount(d)
	ok(t, "Mount", err)
	return f
}

// open opens the store of files.
func open(t *testing.T, f *file.Store) *loose.Store {
	t.Helper()
	s, err := loose.Open(f)
	if s == nil || err != api.OK {
		t.Fatalf("Open: %v, %d", s, err)
	}
	return s
}

// fresh returns a store on a disk of n sectors for so many files, with both.
func fresh(t *testing.T, n, files int) (*loose.Store, *file.Store, *sector.Disk) {
	t.Helper()
	d := formatted(t, n, files)
	f := mount(t, d)
	return open(t, f), f, d
}

// stored puts a text that must be taken.
func stored(t *testing.T, s *loose.Store, data string) {
	t.Helper()
	if id, err := s.Put(data); id != idOf(data) || err != api.OK {
		t.Fatalf("Put of %s: %x, %d", short(data), id, err)
	}
}

// unstored says that a Put must have an error.
func unstored(t *testing.T, what string, s *loose.Store, data string, want api.Errno) {
	t.Helper()
	if id, err := s.Put(data); id != "" || err != want {
		t.Errorf("%s: Put of %s: %x, %d; want %d", what, short(data), id, err, want)
	}
}

// got says that a Get must return a text.
func got(t *testing.T, what string, s *loose.Store, data string) {
	t.Helper()
	if x, err := s.Get(idOf(data)); x != data || err != api.OK {
		t.Errorf("%s: Get of %s: %s, %d", what, short(data), short(x), err)
	}
}

// ungot says that a Get must have an error.
func ungot(t *testing.T, what string, s *loose.Store, id string, want api.Errno) {
	t.Helper()
	if x, err := s.Get(id); x != "" || err != want {
		t.Errorf("%s: Get(%x): %s, %d; want %d", what, id, short(x), err, want)
	}
}

// holds says which texts a store must have, and no others.
func holds(t *testing.T, what string, s *loose.Store, texts ...string) {
	t.Helper()
	var ids []string
	for _, data := range texts {
		got(t, what, s, data)
		ids = append(ids, idOf(data))
	}
	listed(t, what, s, ids...)
}

// listed says which IDs List must return, given in any order, and that Has knows them.
func listed(t *testing.T, what string, s *loose.Store, ids ...string) {
	t.Helper()
	slices.Sort(ids)
	if l := s.List(); !slices.Equal(l, ids) {
		t.Errorf("%s: List: %x, want %x", what, l, ids)
	}
	for _, id := range ids {
		if !s.Has(id) {
			t.Errorf("%s: Has(%x) is false", what, id)
		}
	}
}

// counted says what Counts must return.
func counted(t *testing.T, what string, s *loose.Store, written, found, read int) {
	t.Helper()
	if x, y, z := s.Counts(); x != written || y != found || z != read {
		t.Errorf("%s: Counts: %d, %d, %d; want %d, %d, %d", what, x, y, z, written, found, read)
	}
}

// off switches the power of a disk off.
func off(d *sector.Disk) {
	d.Cut(1)
	d.Sync()
}

// commands returns how many modifying commands a disk has executed.
func commands(d *sector.Disk) int {
	n, _ := d.Counts()
	return n
}

// content returns the bytes of all sectors.
func content(t *testing.T, d *sector.Disk) []string {
	t.Helper()
	l := make([]string, d.Size())
	for i := range l {
		s, err := d.Read(i)
		ok(t, "Read", err)
		l[i] = s
	}
	return l
}

// lay makes the sectors of a disk durable as they are in l.
func lay(d *sector.Disk, l []string) {
	for i, s := range l {
		d.Spoil(i, s)
	}
}

// unchanged says that a call must write nothing.
func unchanged(t *testing.T, what string, d *sector.Disk, call func()) {
	t.Helper()
	before, n := content(t, d), commands(d)
	call()
	if commands(d) != n || !slices.Equal(content(t, d), before) {
		t.Errorf("%s: the disk has changed", what)
	}
}
