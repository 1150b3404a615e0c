package shelf_test

import (
	"crypto/sha256"
	"encoding/hex"
	"fmt"
	"slices"
	"testing"

	"stemma/api"
	"stemma/file"
	"stemma/nums"
	"stemma/pack"
	"stemma/sector"
	"stemma/shelf"
)

const maxData = 262208 // MaxBody + 64

// idOf returns the ID of a text; nothing here asks package sha.
func idOf(data string) string {
	x := sha256.Sum256([]byte(data))
	return string(x[:])
}

// idsOf returns the IDs of texts, in their order.
func idsOf(texts ...string) []string {
	var ids []string
	for _, data := range texts {
		ids = append(ids, idOf(data))
	}
	return ids
}

// looseName returns the name of the file of a text.
func looseName(data string) string { return "o" + hex.EncodeToString([]byte(idOf(data))) }

// packName returns the name of the file of a pack.
func packName(text string) string { return "p" + hex.EncodeToString([]byte(idOf(text))) }

// named returns the name of the file of some pack, other than its digest says.
func named(c byte) string { return "p" + hex.EncodeToString(slices.Repeat([]byte{c}, 32)) }

// packOf makes a pack of texts.
func packOf(t *testing.T, texts ...string) string {
	t.Helper()
	s, err := pack.Make(texts)
	ok(t, "Make", err)
	return s
}

// onePack returns a pack of one item that is a whole one.
func onePack(id, data string) string {
	body := "PK\x01" + id + "\x00" + nums.Join(data)
	return body + idOf(body)
}

// brokenPack returns a pack of one item whose base does not exist.
func brokenPack(id string) string {
	body := "PK\x01" + id + "\x01" + idOf("no such base") + nums.Join("\x00\x00")
	return body + idOf(body)
}

// text returns n bytes, others for each seed and at each place.
func text(seed, n int) string {
	b := make([]byte, n)
	x := uint32(seed)*2654435761 + 12345
	for i := range b {
		x = x*1664525 + 1013904223
		b[i] = byte(x >> 24)
	}
	return string(b)
}

// short returns a text that an error can tell.
func short(s string) string { return fmt.Sprintf("%.20q of %d bytes", s, len(s)) }

// is says what an error must be.
func is(t *testing.T, what string, err, want api.Errno) {
	t.Helper()
	if err != want {
		t.Errorf("%s: error %d, want %d", what, err, want)
	}
}

// ok says that a call must have succeeded, and ends the test if not.
func ok(t *testing.T, what string, err api.Errno) {
	t.Helper()
	if err != api.OK {
		t.Fatalf("%s: error %d", what, err)
	}
}

// formatted returns a disk of n sectors for so many files.
func formatted(t *testing.T, n, files int) *sector.Disk {
	t.Helper()
	d, err := sector.New(n)
	ok(t, "New", err)
	ok(t, "Format", file.Format(d, files))
	return d
}

// mount mounts a disk.
func mount(t *testing.T, d *sector.Disk) *file.Store {
	t.Helper()
	f, err := file.Mount(d)
	ok(t, "Mount", err)
	return f
}

// open opens the shelf of files.
func open(t *testing.T, f *file.Store) *shelf.Shelf {
	t.Helper()
	s, err := shelf.Open(f)
	if s == nil || err != api.OK {
		t.Fatalf("Open: %v, %d", s, err)
	}
	return s
}

// fresh returns a shelf on a disk of n sectors for so many files, with both.
func fresh(t *testing.T, n, files int) (*shelf.Shelf, *file.Store, *sector.Disk) {
	t.Helper()
	d := formatted(t, n, files)
	f := mount(t, d)
	return open(t, f), f, d
}

// write writes a file past the shelf.
func write(t *testing.T, f *file.Store, name, data string) {
	t.Helper()
	ok(t, "Write", f.Write(name, data))
}

// stored puts texts that must be taken.
func stored(t *testing.T, s *shelf.Shelf, texts ...string) {
	t.Helper()
	for _, data := range texts {
		if id, err := s.Put(data); id != idOf(data) || err != api.OK {
			t.Fatalf("Put of %s: %x, %d", short(data), id, err)
		}
	}
}

// unstored says that a Put must have an error.
func unstored(t *testing.T, what string, s *shelf.Shelf, data string, want api.Errno) {
	t.Helper()
	if id, err := s.Put(data); id != "" || err != want {
		t.Errorf("%s: Put of %s: %x, %d; want %d", what, short(data), id, err, want)
	}
}

// ungot says that a Get must have an error.
func ungot(t *testing.T, what string, s *shelf.Shelf, id string, want api.Errno) {
	t.Helper()
	if x, err := s.Get(id); x != "" || err != want {
		t.Errorf("%s: Get(%.8x): %s, %d; want %d", what, id, short(x), err, want)
	}
}

// got says that Gets must return texts.
func got(t *testing.T, what string, s *shelf.Shelf, texts ...string) {
	t.Helper()
	for _, data := range texts {
		if x, err := s.Get(idOf(data)); x != data || err != api.OK {
			t.Errorf("%s: Get of %s: %s, %d", what, short(data), short(x), err)
		}
	}
}

// listed says which IDs there must be, and no others; they are given in any order.
func listed(t *testing.T, what string, s *shelf.Shelf, ids ...string) {
	t.Helper()
	ids = slices.Clone(ids)
	slices.Sort(ids)
	if l := s.IDs(); !slices.Equal(l, ids) {
		t.Errorf("%s: IDs: %.8x, want %.8x", what, l, ids)
	}
	for _, id := range ids {
		if !s.Has(id) {
			t.Errorf("%s: Has(%.8x) is false", what, id)
		}
	}
}

// holds says which texts a shelf must have, and no others, and how many files of both kinds.
func holds(t *testing.T, what string, s *shelf.Shelf, loose, packs int, texts ...string) {
	t.Helper()
	got(t, what, s, texts...)
	listed(t, what, s, idsOf(texts...)...)
	shaped(t, what, s, loose, packs)
}

// shaped says what Shape must return.
func shaped(t *testing.T, what string, s *shelf.Shelf, loose, packs int) {
	t.Helper()
	if x, y := s.Shape(); x != loose || y != packs {
		t.Errorf("%s: Shape: %d, %d; want %d, %d", what, x, y, loose, packs)
	}
}

// off switches the power of a disk off.
func off(d *sector.Disk) {
	d.Cut(1)
	d.Sync()
}

// commands returns how many modifying commands a disk has executed.
func commands(d *sector.Disk) int {
	n, _ := d.Counts()
	return n
}

// content returns the bytes of all sectors.
func content(t *testing.T, d *sector.Disk) []string {
	t.Helper()
	l := make([]string, d.Size())
	for i := range l {
		s, err := d.Read(i)
		ok(t, "Read", err)
		l[i] = s
	}
	return l
}

// lay makes the sectors of a disk durable as they are in l.
func lay(d *sector.Disk, l []string) {
	for i, s := range l {
		d.Spoil(i, s)
	}
}

// unchanged says that a call must write nothing.
func unchanged(t *testing.T, what string, d *sector.Disk, call func()) {
	t.Helper()
	before, n := content(t, d), commands(d)
	call()
	if commands(d) != n || !slices.Equal(content(t, d), before) {
		t.Errorf("%s: the disk has changed", what)
	}
}
