package repo_test

import (
	"crypto/sha256"
	"encoding/hex"
	"fmt"
	"slices"
	"strings"
	"testing"

	"stemma/api"
	"stemma/file"
	"stemma/keydiff"
	"stemma/names"
	"stemma/nums"
	"stemma/refs"
	"stemma/repo"
	"stemma/sector"
	"stemma/shelf"
)

// idOf returns the ID of a text; nothing here asks package sha.
func idOf(data string) string {
	x := sha256.Sum256([]byte(data))
	return string(x[:])
}

// looseName returns the name of the file of an ID.
func looseName(id string) string { return "o" + hex.EncodeToString([]byte(id)) }

// named returns the name of the file of some pack, other than its digest says.
func named(c byte) string { return "p" + hex.EncodeToString(slices.Repeat([]byte{c}, 32)) }

// The texts of objects; nothing here asks package object.

func blob(body string) string { return "\x01" + nums.Join(body) }

// tree returns the text of one of these names and IDs, in turn.
func tree(l ...string) string { return "\x02" + nums.Join(l...) }

// treeOf returns the text of the tree of files.
func treeOf(l []keydiff.Item) string {
	var fields []string
	for _, f := range l {
		fields = append(fields, f.Key, idOf(blob(f.Value)))
	}
	return tree(fields...)
}

func commit(tree string, n repo.Note, parents ...string) string {
	return "\x03" + nums.Join(tree, strings.Join(parents, ""), n.Author, n.Text, nums.Put(n.Time))
}

// commitOf returns the text of the commit of files.
func commitOf(l []keydiff.Item, n repo.Note, parents ...string) string {
	return commit(idOf(treeOf(l)), n, parents...)
}

func tag(target, name, text string) string { return "\x04" + nums.Join(target, name, text) }

// note returns one of some time.
func note(time int) repo.Note { return repo.Note{Author: "me", Text: "why", Time: time} }

// files returns a list of files: names and texts in turn.
func files(l ...string) []keydiff.Item {
	var items []keydiff.Item
	for x := range slices.Chunk(l, 2) {
		items = append(items, keydiff.Item{Key: x[0], Value: x[1]})
	}
	return items
}

// alike returns n files of the same text.
func alike(n int, text string) []keydiff.Item {
	var l []keydiff.Item
	for i := range n {
		l = append(l, keydiff.Item{Key: fmt.Sprintf("f%05d", i), Value: text})
	}
	return l
}

// noise returns n bytes, others for each seed and at each place.
func noise(seed, n int) string {
	b := make([]byte, n)
	x := uint32(seed)*2654435761 + 12345
	for i := range b {
		x = x*1664525 + 1013904223
		b[i] = byte(x >> 24)
	}
	return string(b)
}

// is says what an error must be.
func is(t *testing.T, what string, err, want api.Errno) {
	t.Helper()
	if err != want {
		t.Errorf("%s: error %d, want %d", what, err, want)
	}
}

// ok says that a call must have succeeded, and ends the test if not.
func ok(t *testing.T, what string, err api.Errno) {
	t.Helper()
	if err != api.OK {
		t.Fatalf("%s: error %d", what, err)
	}
}

// disk returns one of n sectors.
func disk(t *testing.T, n int) *sector.Disk {
	t.Helper()
	d, err := sector.New(n)
	ok(t, "New", err)
	return d
}

// open opens the repository of a disk.
func open(t *testing.T, d *sector.Disk) *repo.Repo {
	t.Helper()
	r, err := repo.Open(d)
	if r == nil || err != api.OK {
		t.Fatalf("Open: %v, %d", r, err)
	}
	return r
}

// fresh returns a repository without commits on a disk of n sectors for so many files, with the disk.
func fresh(t *testing.T, n, files int) (*repo.Repo, *sector.Disk) {
	t.Helper()
	d := disk(t, n)
	ok(t, "Init", repo.Init(d, files))
	return open(t, d), d
}

// layers are what a repository is based on.
type layers struct {
	f *file.Store
	s *shelf.Shelf
	r *refs.Refs
}

// beneath returns the layers of a disk; a repository that it has is to be opened anew if they change anything.
func beneath(t *testing.T, d *sector.Disk) layers {
	t.Helper()
	f, err := file.Mount(d)
	ok(t, "Mount", err)
	s, err := shelf.Open(f)
	ok(t, "Open of the shelf", err)
	r, err := refs.Open(f)
	ok(t, "Open of the references", err)
	return layers{f, s, r}
}

// planted returns a repository with these texts, whatever they are, each in a file of its own.
func planted(t *testing.T, texts ...string) (*repo.Repo, *sector.Disk) {
	t.Helper()
	d := disk(t, 1000)
	ok(t, "Init", repo.Init(d, 80))
	plant(t, d, texts...)
	return open(t, d), d
}

// plant stores texts on a disk past its repository.
func plant(t *testing.T, d *sector.Disk, texts ...string) {
	t.Helper()
	s := beneath(t, d).s
	for _, data := range texts {
		_, err := s.Put(data)
		ok(t, "Put", err)
	}
}

// referring gives a disk the references of a table, which may be others than any call of a repository makes.
func referring(t *testing.T, d *sector.Disk, x names.Table) {
	t.Helper()
	f := beneath(t, d).f
	ok(t, "Remove", f.Remove("refs"))
	ok(t, "Format", refs.Format(f, x.Head))
	r, err := refs.Open(f)
	ok(t, "Open", err)
	for _, y := range x.Refs {
		ok(t, "Update", r.Update([]names.Update{{Name: y.Name, New: y.ID}}, ""))
	}
}

// text returns what the file of an ID has.
func text(t *testing.T, d *sector.Disk, id string) string {
	t.Helper()
	s, err := beneath(t, d).f.Read(looseName(id))
	ok(t, "Read", err)
	return s
}

// encoded returns a table as its file has it, without the frame.
func encoded(x names.Table) string {
	var l, log []string
	for _, y := range x.Refs {
		l = append(l, y.Name, y.ID)
	}
	for _, y := range x.Log {
		log = append(log, y.Name, y.Old, y.New)
	}
	return nums.Join(x.Head, nums.Join(l...), nums.Join(log...))
}

// committed commits files that must be taken, and returns the ID.
func committed(t *testing.T, r *repo.Repo, time int, l ...string) string {
	t.Helper()
	id, err := r.Commit(files(l...), note(time))
	ok(t, "Commit", err)
	return id
}

// branched makes a branch, and makes it the head.
func branched(t *testing.T, r *repo.Repo, name, id string) {
	t.Helper()
	ok(t, "Branch", r.Branch(name, id))
	ok(t, "Switch", r.Switch(name))
}

// refers says to what a reference must refer; the empty text: there is none.
func refers(t *testing.T, what string, r *repo.Repo, name, want string) {
	t.Helper()
	if id, _ := r.Refs().Get(name); id != want {
		t.Errorf("%s: %s is %.8x, want %.8x", what, name, id, want)
	}
}

// contains says which files a commit must have.
func contains(t *testing.T, what string, r *repo.Repo, id string, want []keydiff.Item) {
	t.Helper()
	if l, err := r.Files(id); err != api.OK || !slices.Equal(l, want) {
		t.Errorf("%s: Files(%.8x): %.200q, %d; want %.200q", what, id, l, err, want)
	}
}

// sound says that nothing may be wrong with a repository.
func sound(t *testing.T, what string, r *repo.Repo) {
	t.Helper()
	for _, x := range r.Check() {
		t.Errorf("%s: Check: %.8x, %d", what, x.ID, x.Code)
	}
}

// sameTable reports whether two tables are equal, where an empty list may be nil.
func sameTable(a, b names.Table) bool {
	return a.Head == b.Head && slices.Equal(a.Refs, b.Refs) && slices.Equal(a.Log, b.Log)
}

// shown returns how a table begins, as an error tells it.
func shown(x names.Table) string {
	return fmt.Sprintf("%s, %d references and a log of %d: %.300q", x.Head, len(x.Refs), len(x.Log), fmt.Sprint(x.Refs))
}

// off switches the power of a disk off.
func off(d *sector.Disk) {
	d.Cut(1)
	d.Sync()
}

// commands returns how many modifying commands a disk has executed.
func commands(d *sector.Disk) int {
	n, _ := d.Counts()
	return n
}

// content returns the bytes of all sectors.
func content(t *testing.T, d *sector.Disk) []string {
	t.Helper()
	l := make([]string, d.Size())
	for i := range l {
		s, err := d.Read(i)
		ok(t, "Read", err)
		l[i] = s
	}
	return l
}

// lay makes the sectors of a disk durable as they are in l.
func lay(d *sector.Disk, l []string) {
	for i, s := range l {
		d.Spoil(i, s)
	}
}

// unchanged says that a call must write nothing.
func unchanged(t *testing.T, what string, d *sector.Disk, call func()) {
	t.Helper()
	before, n := content(t, d), commands(d)
	call()
	if commands(d) != n || !slices.Equal(content(t, d), before) {
		t.Errorf("%s: the disk has changed", what)
	}
}
