package repo_test

import (
	"slices"
	"strings"
	"testing"

	"stemma/api"
	"stemma/file"
	"stemma/keydiff"
	"stemma/names"
	"stemma/refs"
	"stemma/repo"
	"stemma/sector"
)

func TestExample(t *testing.T) {
	r, _ := fresh(t, 60, 10)
	id := committed(t, r, 1, "a", "x")
	refers(t, "the example", r, "heads/main", id)
	if l, err := r.Log(id); err != api.OK || !slices.Equal(l, []string{id}) {
		t.Errorf("Log: %.8x, %d", l, err)
	}
}

// P24.1

// Init does to a disk what the layers do, command by command.
func TestInit(t *testing.T) {
	for _, x := range []struct{ sectors, files int }{{9, 1}, {12, 2}, {60, 10}, {4096, 256}} {
		d, like := disk(t, x.sectors), disk(t, x.sectors)
		is(t, "Init", repo.Init(d, x.files), api.OK)
		ok(t, "Format", file.Format(like, x.files))
		f, err := file.Mount(like)
		ok(t, "Mount", err)
		ok(t, "Format", refs.Format(f, "heads/main"))
		if !slices.Equal(content(t, d), content(t, like)) || commands(d) != commands(like) {
			t.Errorf("%v: other than the layers'", x)
		}
		if y := open(t, d).Refs(); !sameTable(y, names.Table{Head: "heads/main"}) {
			t.Errorf("%v: %s", x, shown(y))
		}
	}
}

func TestInitErrors(t *testing.T) {
	is(t, "no disk", repo.Init(nil, 4), api.ErrArg)
	for _, x := range []struct{ sectors, files int }{{60, 0}, {60, -1}, {4096, 257}, {8, 1}, {11, 4}, {1, 1}, {60, 53}, {60, 1 << 40}} {
		d := disk(t, x.sectors)
		unchanged(t, "Init", d, func() { is(t, "Init", repo.Init(d, x.files), api.ErrArg) })
	}
	d := disk(t, 30)
	off(d)
	is(t, "without power", repo.Init(d, 4), api.ErrPower)
	is(t, "without power, no file", repo.Init(d, 0), api.ErrArg)
	n := 1
	for ; ; n++ {
		d := disk(t, 30)
		d.Cut(n)
		err := repo.Init(d, 4)
		if !d.Off() {
			is(t, "Init", err, api.OK)
			break
		}
		is(t, "Init that is cut", err, api.ErrPower)
	}
	if n < 20 {
		t.Errorf("Init has %d commands", n-1)
	}
}

// What was on the disk is gone.
func TestInitAgain(t *testing.T) {
	r, d := fresh(t, 60, 10)
	id := committed(t, r, 1, "a", "x")
	ok(t, "Branch", r.Branch("heads/b", id))
	is(t, "Init", repo.Init(d, 8), api.OK)
	r = open(t, d)
	if x := r.Refs(); !sameTable(x, names.Table{Head: "heads/main"}) {
		t.Error(shown(x))
	}
	if _, err := r.Files(id); err != api.ErrNone {
		t.Errorf("Files: %d", err)
	}
}

// unopened says what error Open must have.
func unopened(t *testing.T, what string, d *sector.Disk, want api.Errno) {
	t.Helper()
	if r, err := repo.Open(d); r != nil || err != want {
		t.Errorf("%s: Open: %v, %d; want %d", what, r, err, want)
	}
}

func TestOpenErrors(t *testing.T) {
	unopened(t, "no disk", nil, api.ErrArg)
	unopened(t, "an empty disk", disk(t, 30), api.ErrForm)
	_, d := fresh(t, 40, 5)
	off(d)
	unopened(t, "without power", d, api.ErrPower)
	d.On()
	open(t, d)

	// The references come last.
	f := beneath(t, d).f
	ok(t, "Rename", f.Rename("refs", "refs2"))
	unopened(t, "no references", d, api.ErrNone)
	ok(t, "Write", f.Write(named(1), "no pack"))
	unopened(t, "a pack that is none, and no references", d, api.ErrCorrupt)
	ok(t, "Remove", f.Remove(named(1)))
	ok(t, "Write", f.Write("refs", "no references"))
	unopened(t, "references that are none", d, api.ErrCorrupt)
	ok(t, "Rename", f.Rename("refs2", "refs"))
	open(t, d)

	// Layer 7 comes first.
	ok(t, "Write", f.Write(named(1), "no pack"))
	head, _ := d.Read(0)
	ok(t, "Spoil", d.Spoil(0, "XX"+head[2:]))
	unopened(t, "no head", d, api.ErrForm)
	ok(t, "Spoil", d.Spoil(0, head))
	ok(t, "Spoil", d.Spoil(1, "\xff\xff\xff"))
	unopened(t, "another bitmap", d, api.ErrCorrupt)
}

// Open removes what an earlier call left, which the power may break off.
func TestOpenCut(t *testing.T) {
	r, d := fresh(t, 60, 10)
	id := committed(t, r, 1, "a", "x")
	ok(t, "Write", beneath(t, d).f.Write("tmp", "abc"))
	sectors, want := content(t, d), r.Refs()
	n := 1
	for ; ; n++ {
		lay(d, sectors)
		d.Cut(n, 1, 0)
		r, err := repo.Open(d)
		cut := d.Off()
		d.On()
		if !cut {
			is(t, "Open", err, api.OK)
			break
		}
		if r != nil || err != api.ErrPower {
			t.Errorf("Open that is cut: %v, %d", r, err)
		}
		r = open(t, d)
		if x := r.Refs(); !sameTable(x, want) {
			t.Errorf("opened again: %s", shown(x))
		}
		contains(t, "opened again", r, id, files("a", "x"))
	}
	if n < 8 {
		t.Errorf("Open has %d commands", n-1)
	}
	if slices.Contains(beneath(t, d).f.Names(), "tmp") {
		t.Error("tmp is still there")
	}
}

func TestRefs(t *testing.T) {
	r, d := fresh(t, 60, 20)
	a := committed(t, r, 1, "a", "x")
	branched(t, r, "heads/b", a)
	b := committed(t, r, 2, "a", "y")
	want := names.Table{
		Refs: []names.Ref{{Name: "heads/b", ID: b}, {Name: "heads/main", ID: a}},
		Head: "heads/b",
		Log:  []names.Update{{Name: "heads/main", New: a}, {Name: "heads/b", New: a}, {Name: "heads/b", Old: a, New: b}},
	}
	for _, r := range []*repo.Repo{r, open(t, d)} {
		x := r.Refs()
		if !sameTable(x, want) {
			t.Errorf("%s", shown(x))
		}
		x.Refs[0], x.Log[0] = names.Ref{}, names.Update{}
		_ = append(x.Refs, names.Ref{Name: "x"})
		if x := r.Refs(); !sameTable(x, want) {
			t.Errorf("what Refs returned has changed: %s", shown(x))
		}
	}
}

// call is one of those that have an error.
type call struct {
	name string
	do   func(r *repo.Repo) api.Errno
}

// none says that nothing may be returned beside an error.
func none(t *testing.T, empty bool, err api.Errno) api.Errno {
	t.Helper()
	if err != api.OK && !empty {
		t.Errorf("a result beside error %d", err)
	}
	return err
}

// calls returns all, with arguments of which many are wrong.
func calls(t *testing.T) []call {
	bad := files("b", "", "a", "")
	var l []call
	add := func(name string, do func(r *repo.Repo) api.Errno) { l = append(l, call{name, do}) }
	for _, f := range [][]keydiff.Item{nil, bad, files("?", ""), files("a", "new"), files("a.merges", "wrong")} {
		for _, n := range []repo.Note{note(9), note(-1)} {
			add("Commit", func(r *repo.Repo) api.Errno { id, err := r.Commit(f, n); return none(t, id == "", err) })
			add("Plan", func(r *repo.Repo) api.Errno { id, err := r.Plan(f, n); return none(t, id == "", err) })
		}
	}
	for _, id := range []string{"", "no ID", idOf("none"), idOf(commitOf(files("a", "x"), note(1)))} {
		add("Files", func(r *repo.Repo) api.Errno { l, err := r.Files(id); return none(t, len(l) == 0, err) })
		add("Log", func(r *repo.Repo) api.Errno { l, err := r.Log(id); return none(t, len(l) == 0, err) })
		add("Diff", func(r *repo.Repo) api.Errno { l, err := r.Diff(id, id); return none(t, len(l) == 0, err) })
		for _, name := range []string{"", "heads/main", "heads/new", "tags/new", "tags/a..b"} {
			add("Branch", func(r *repo.Repo) api.Errno { return r.Branch(name, id) })
			add("Tag", func(r *repo.Repo) api.Errno { return r.Tag(name, id, "") })
			add("Update", func(r *repo.Repo) api.Errno { return r.Update([]names.Update{{Name: name, New: id}}) })
		}
	}
	add("Update", func(r *repo.Repo) api.Errno { return r.Update(nil) })
	for _, name := range []string{"", "heads/main", "heads/other", "heads/none", "tags/a"} {
		add("Switch", func(r *repo.Repo) api.Errno { return r.Switch(name) })
		add("Merge", func(r *repo.Repo) api.Errno {
			id, l, err := r.Merge(name, note(9))
			return none(t, id == "" && len(l) == 0, err)
		})
		add("PlanMerge", func(r *repo.Repo) api.Errno { id, err := r.PlanMerge(name, note(9)); return none(t, id == "", err) })
	}
	add("Repack", func(r *repo.Repo) api.Errno { return r.Repack() })
	add("Collect", func(r *repo.Repo) api.Errno { return r.Collect() })
	return l
}

func TestNil(t *testing.T) {
	var r *repo.Repo
	for _, c := range calls(t) {
		is(t, c.name+" of nil", c.do(r), api.ErrArg)
	}
	if x := r.Refs(); !sameTable(x, names.Table{}) {
		t.Errorf("Refs of nil: %s", shown(x))
	}
	if l := r.Check(); len(l) != 0 {
		t.Errorf("Check of nil: %v", l)
	}
}

// No call of a repository that was made by hand panics (P1).
func TestByHand(t *testing.T) {
	r := new(repo.Repo)
	for _, c := range calls(t) {
		c.do(r)
	}
	r.Refs()
	r.Check()
}

// powerless says that all calls have ErrPower, whatever else is wrong, and what the others tell.
func powerless(t *testing.T, what string, r *repo.Repo, want names.Table) {
	t.Helper()
	for _, c := range calls(t) {
		is(t, what+": "+c.name, c.do(r), api.ErrPower)
	}
	if x := r.Refs(); !sameTable(x, want) {
		t.Errorf("%s: Refs: %s", what, shown(x))
	}
	// Layer 23's Check has an error for each ID then.
	l := r.Check()
	if len(l) == 0 || l[0].Code != api.ErrPower {
		t.Errorf("%s: Check: %v", what, l)
	}
	target := idOf("target")
	if id, err := repo.TagOf("tags/v1", target, "x"); id != idOf(tag(target, "v1", "x")) || err != api.OK {
		t.Errorf("%s: TagOf: %x, %d", what, id, err)
	}
}

func TestWithoutPower(t *testing.T) {
	r, d := fresh(t, 80, 20)
	id := committed(t, r, 1, "a", "x")
	ok(t, "Branch", r.Branch("heads/other", id))
	table := r.Refs()
	off(d)
	powerless(t, "without power", r, table)
	d.On()
	contains(t, "the power is on again", r, id, files("a", "x"))
	sound(t, "the power is on again", r)
	d.Crash(1)
	contains(t, "the power failed between the calls", r, id, files("a", "x"))
	committed(t, r, 2, "a", "y")
	table = r.Refs()

	// Each of these breaks off another call.
	for name, do := range map[string]func(r *repo.Repo) api.Errno{
		"Commit":  func(r *repo.Repo) api.Errno { _, err := r.Commit(files("a", "z"), note(3)); return err },
		"Branch":  func(r *repo.Repo) api.Errno { return r.Branch("heads/new", id) },
		"Tag":     func(r *repo.Repo) api.Errno { return r.Tag("tags/new", id, "") },
		"Update":  func(r *repo.Repo) api.Errno { return r.Update([]names.Update{{Name: "heads/other", Old: id}}) },
		"Switch":  func(r *repo.Repo) api.Errno { return r.Switch("heads/other") },
		"Repack":  (*repo.Repo).Repack,
		"Collect": (*repo.Repo).Collect,
	} {
		r := open(t, d)
		d.Cut(2)
		is(t, name+" that is cut", do(r), api.ErrPower)
		if !d.Off() {
			t.Errorf("%s was not cut", name)
		}
		powerless(t, name+" was cut", r, table)
		d.On()
		powerless(t, name+" was cut, and the power is on", r, table)
		r = open(t, d)
		contains(t, "opened again", r, id, files("a", "x"))
		if x := r.Refs(); !sameTable(x, table) {
			t.Errorf("%s was cut ahead of its second command: %s", name, shown(x))
		}
	}
}

// P24.6

// Objects that nothing reaches are packed too, by Repack, and are gone after Collect.
func TestRepackCollect(t *testing.T) {
	r, d := planted(t, blob("lost"), "no object")
	a := committed(t, r, 1, "a", "x", "b", "y")
	b := committed(t, r, 2, "a", "x", "b", "z")
	shape := func(what string, loose, packs int, want ...string) {
		t.Helper()
		s := beneath(t, d).s
		if x, y := s.Shape(); x != loose || y != packs {
			t.Errorf("%s: Shape: %d, %d; want %d, %d", what, x, y, loose, packs)
		}
		var ids []string
		for _, data := range want {
			ids = append(ids, idOf(data))
		}
		slices.Sort(ids)
		if l := s.IDs(); !slices.Equal(l, ids) {
			t.Errorf("%s: IDs: %.8x, want %.8x", what, l, ids)
		}
	}
	first, second := files("a", "x", "b", "y"), files("a", "x", "b", "z")
	kept := []string{
		blob("x"), blob("y"), blob("z"), treeOf(first), treeOf(second), commitOf(first, note(1)), commitOf(second, note(2), a),
	}
	all := append(slices.Clone(kept), blob("lost"), "no object")
	shape("committed", 9, 0, all...)
	sound(t, "committed", r)
	ok(t, "Repack", r.Repack())
	shape("repacked", 0, 1, all...)
	sound(t, "repacked", r)
	unchanged(t, "Repack again", d, func() { ok(t, "Repack", r.Repack()) })
	ok(t, "Collect", r.Collect())
	shape("collected", 0, 1, kept...)
	sound(t, "collected", r)
	for _, r := range []*repo.Repo{r, open(t, d)} {
		contains(t, "collected", r, a, first)
		contains(t, "collected", r, b, second)
	}
	// What the log alone names is kept as well.
	ok(t, "Update", r.Update([]names.Update{{Name: "heads/main", Old: b}}))
	ok(t, "Collect", r.Collect())
	shape("without references", 0, 1, kept...)
	contains(t, "without references", r, b, second)
}

// What the log has forgotten is collected.
func TestCollectForgotten(t *testing.T) {
	r, d := fresh(t, 200, 30)
	a := committed(t, r, 1, "a", "forgotten")
	ok(t, "Update", r.Update([]names.Update{{Name: "heads/main", Old: a}}))
	b := committed(t, r, 2, "a", "x")
	ok(t, "Collect", r.Collect())
	contains(t, "in the log", r, a, files("a", "forgotten"))
	for i := range 253 {
		name := "tags/" + strings.Repeat("t", i%50+1)
		if id, exists := r.Refs().Get(name); exists {
			ok(t, "Update", r.Update([]names.Update{{Name: name, Old: id}}))
		} else {
			ok(t, "Update", r.Update([]names.Update{{Name: name, New: b}}))
		}
	}
	ok(t, "Collect", r.Collect())
	contains(t, "last in the log", r, a, files("a", "forgotten")) // the update that removed it is the first of the log
	ok(t, "Update", r.Update([]names.Update{{Name: "tags/x", New: b}, {Name: "tags/y", New: b}}))
	ok(t, "Collect", r.Collect())
	if _, err := r.Files(a); err != api.ErrNone {
		t.Errorf("Files of what was forgotten: %d", err)
	}
	contains(t, "collected", r, b, files("a", "x"))
	sound(t, "collected", open(t, d))
}

// Repack and Collect have the errors of the layers.
func TestRepackCollectErrors(t *testing.T) {
	data := commitOf(files("a", "x"), note(1))
	r, d := planted(t, data)
	is(t, "Branch", r.Branch("heads/main", idOf(data)), api.OK)
	unchanged(t, "a tree is missing", d, func() { is(t, "Collect", r.Collect(), api.ErrNone) })
	if l := r.Check(); len(l) != 1 || l[0].ID != idOf(treeOf(files("a", "x"))) || l[0].Code != api.ErrNone {
		t.Errorf("Check: %v", l)
	}
	is(t, "Repack", r.Repack(), api.OK)

	ok(t, "Write", beneath(t, d).f.Write(looseName(idOf("other")), "x"))
	r = open(t, d)
	unchanged(t, "a corrupt text", d, func() { is(t, "Repack", r.Repack(), api.ErrCorrupt) })
	if l := r.Check(); len(l) != 2 {
		t.Errorf("Check: %v", l)
	}
	plant(t, d, treeOf(files("a", "x")), blob("x"))
	r = open(t, d)
	is(t, "Collect", r.Collect(), api.OK) // nothing reaches the corrupt text
	is(t, "Repack", r.Repack(), api.OK)
	sound(t, "collected", r)
	contains(t, "collected", r, idOf(data), files("a", "x"))
}

func TestRepackWithoutSpace(t *testing.T) {
	r, d := fresh(t, 30, 8) // 17 data units, of which the references take one
	a := committed(t, r, 1, "a", noise(1, 4000))
	b := committed(t, r, 2, "a", noise(2, 1000))
	table := r.Refs()
	is(t, "Repack", r.Repack(), api.ErrSpace)
	is(t, "Collect", r.Collect(), api.ErrSpace)
	for _, r := range []*repo.Repo{r, open(t, d)} {
		contains(t, "not packed", r, a, files("a", noise(1, 4000)))
		contains(t, "not packed", r, b, files("a", noise(2, 1000)))
		if x := r.Refs(); !sameTable(x, table) {
			t.Errorf("%s", shown(x))
		}
		sound(t, "not packed", r)
	}
}

// An empty repository is packed and collected like any other.
func TestEmpty(t *testing.T) {
	r, d := fresh(t, 20, 3)
	unchanged(t, "empty", d, func() {
		is(t, "Repack", r.Repack(), api.OK)
		is(t, "Collect", r.Collect(), api.OK)
	})
	sound(t, "empty", r)
	s := beneath(t, d).s
	_, err := s.Put("lost")
	ok(t, "Put", err)
	r = open(t, d)
	is(t, "Collect", r.Collect(), api.OK)
	if l := beneath(t, d).s.IDs(); len(l) != 0 {
		t.Errorf("IDs: %.8x", l)
	}
}
