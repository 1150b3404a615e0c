package repo_test

import (
	"fmt"
	"slices"
	"strings"
	"testing"

	"stemma/api"
	"stemma/keydiff"
	"stemma/names"
	"stemma/repo"
	"stemma/sector"
)

// P24.2, P24.7

// takes says that Plan foretells a Commit, which must be taken and be the commit of these parents.
func takes(t *testing.T, what string, r *repo.Repo, d *sector.Disk, l []keydiff.Item, n repo.Note, parents ...string) string {
	t.Helper()
	want := idOf(commitOf(l, n, parents...))
	var planned string
	unchanged(t, what+": Plan", d, func() {
		var err api.Errno
		planned, err = r.Plan(l, n)
		if planned != want || err != api.OK {
			t.Errorf("%s: Plan: %.8x, %d; want %.8x", what, planned, err, want)
		}
	})
	before := r.Refs()
	id, err := r.Commit(l, n)
	if id != want || err != api.OK {
		t.Fatalf("%s: Commit: %.8x, %d; want %.8x", what, id, err, want)
	}
	old := strings.Join(parents, "")
	after, err := before.Apply([]names.Update{{Name: before.Head, Old: old, New: id}}, "")
	ok(t, "Apply", err)
	for _, r := range []*repo.Repo{r, open(t, d)} {
		if x := r.Refs(); !sameTable(x, after) {
			t.Errorf("%s: %s, want %s", what, shown(x), shown(after))
		}
		contains(t, what, r, id, l)
	}
	return id
}

// refused says what error Plan and Commit must have, and that nothing is written.
func refused(t *testing.T, what string, r *repo.Repo, d *sector.Disk, l []keydiff.Item, n repo.Note, want api.Errno) {
	t.Helper()
	before := r.Refs()
	unchanged(t, what, d, func() {
		if id, err := r.Plan(l, n); id != "" || err != want {
			t.Errorf("%s: Plan: %.8x, %d; want %d", what, id, err, want)
		}
		if id, err := r.Commit(l, n); id != "" || err != want {
			t.Errorf("%s: Commit: %.8x, %d; want %d", what, id, err, want)
		}
	})
	if x := r.Refs(); !sameTable(x, before) {
		t.Errorf("%s: %s", what, shown(x))
	}
}

// Each object of a commit is on the shelf, byte for byte as layer 11 has it.
func TestCommit(t *testing.T) {
	r, d := fresh(t, 120, 40)
	l := files("a.merges", "a b\n", "b", "", "c.vocab", "0 a\n", "d.rules", "x y\n", "e.chat", "{}\n", "f", "\x00\xff", "g", "a b\n")
	a := takes(t, "the first", r, d, l, note(3))
	for _, data := range []string{blob("a b\n"), blob(""), blob("0 a\n"), blob("x y\n"), blob("{}\n"), blob("\x00\xff"), treeOf(l), commitOf(l, note(3))} {
		if x := text(t, d, idOf(data)); x != data {
			t.Errorf("%q is %q", data, x)
		}
	}
	if n, packs := beneath(t, d).s.Shape(); n != 8 || packs != 0 {
		t.Errorf("Shape: %d, %d", n, packs)
	}
	r = open(t, d)
	b := takes(t, "without files", r, d, nil, repo.Note{}, a)
	c := takes(t, "earlier", r, d, files("a", "x"), repo.Note{Author: "\x00\xff", Text: strings.Repeat("\n", 9), Time: 1}, b)
	ok(t, "Repack", r.Repack())
	takes(t, "the first again", r, d, l, note(3), c)
	if n, _ := beneath(t, d).s.Shape(); n != 1 {
		t.Errorf("%d texts were written", n)
	}
	sound(t, "committed", r)
}

// The parent is that of the head's branch, whatever other branches there are; the same commit may be made twice.
func TestCommitHead(t *testing.T) {
	r, d := fresh(t, 120, 40)
	l := files("a", "x")
	a := takes(t, "main", r, d, l, note(1))
	branched(t, r, "heads/b", a)
	b := takes(t, "b", r, d, l, note(1), a)
	refers(t, "b", r, "heads/main", a)
	ok(t, "Switch", r.Switch("heads/main"))
	if again := takes(t, "main again", r, d, l, note(1), a); again != b {
		t.Errorf("%.8x and %.8x", again, b)
	}
	ok(t, "Update", r.Update([]names.Update{{Name: "heads/main", Old: b}}))
	if again := takes(t, "main, from nothing", r, d, l, note(1)); again != a {
		t.Errorf("%.8x and %.8x", again, a)
	}
	refers(t, "main, from nothing", r, "heads/b", b)
	sound(t, "committed", r)
}

// Of several errors the first one counts.
func TestCommitErrors(t *testing.T) {
	r, d := fresh(t, 60, 10)
	long := strings.Repeat("x", api.MaxBody+1)
	wrongNote := repo.Note{Time: -1}
	for _, x := range []struct {
		what string
		l    []keydiff.Item
		want api.Errno
	}{
		{"descending", files("b", "", "a", ""), api.ErrOrder},
		{"twice", files("a", "", "a", ""), api.ErrOrder},
		{"descending, with all else", files("b?", "", "a.merges", "x", "c", long), api.ErrOrder},
		{"no name", files("", ""), api.ErrName},
		{"a wrong name, and others", files("a.merges", "x", "b", long, "b?", ""), api.ErrName},
		{"a dot", files(".a", ""), api.ErrName},
		{"a slash", files("a/b", ""), api.ErrName},
		{"upper case", files("A", ""), api.ErrName},
		{"a name of 65", files(strings.Repeat("a", 65), ""), api.ErrName},
		{"ErrValid first", files("a.merges", "ab c\n", "b.vocab", "x", "c", long), api.ErrValid},
		{"ErrLong first", files("a", long, "b.merges", "ab c\n", "c.rules", "x"), api.ErrLong},
		{"ErrForm first", files("a.rules", "x", "b.merges", "ab c\n", "c", long), api.ErrForm},
		{"ErrOrder of rules", files("a.rules", "b x\na x\n", "b.merges", "ab c\n"), api.ErrOrder},
		{"vocab", files("a.vocab", "0 a\n0 b\n"), api.ErrOrder},
		{"a long template", files("a.chat", long), api.ErrLong},
		{"a long blob", files("a", long), api.ErrLong},
	} {
		refused(t, x.what, r, d, x.l, wrongNote, x.want)
		refused(t, x.what, r, d, x.l, note(1), x.want)
	}
	// The tree comes ahead of the commit.
	refused(t, "too many", r, d, alike(api.MaxItems+1, ""), wrongNote, api.ErrArg)
	refused(t, "too many", r, d, alike(api.MaxItems+1, ""), note(1), api.ErrArg)
	var l []keydiff.Item
	for i := range api.MaxItems {
		l = append(l, keydiff.Item{Key: fmt.Sprintf("%064d", i)})
	}
	refused(t, "a tree that is too long", r, d, l, wrongNote, api.ErrLong)
	refused(t, "a tree that is too long", r, d, l, note(1), api.ErrLong)

	for _, n := range []repo.Note{
		{Author: strings.Repeat("a", 257)}, {Text: strings.Repeat("a", 4097)}, {Time: -1}, {Time: api.MaxNumber + 1}, {Time: -1 << 63},
	} {
		refused(t, "a wrong note", r, d, files("a", "x"), n, api.ErrArg)
		refused(t, "a wrong note", r, d, nil, n, api.ErrArg)
	}
	if n, _ := beneath(t, d).s.Shape(); n != 0 {
		t.Errorf("%d texts were written", n)
	}
}

func TestCommitLimits(t *testing.T) {
	r, d := fresh(t, 4096, 40)
	n := repo.Note{Author: strings.Repeat("a", 256), Text: strings.Repeat("b", 4096), Time: api.MaxNumber}
	a := takes(t, "the most of a note", r, d, files(strings.Repeat("a", 64), "x"), n)
	b := takes(t, "the longest file", r, d, files("a", strings.Repeat("x", api.MaxBody), "b.chat", strings.Repeat("y", api.MaxBody)), note(1), a)
	takes(t, "the most files", r, d, alike(api.MaxItems, "x"), note(2), b)
	sound(t, "limits", r)
}

// Without space Commit has the error, where Plan has the ID; what was put stays, and the next Commit begins with that.
func TestCommitWithoutSpace(t *testing.T) {
	r, d := fresh(t, 34, 8) // 19 data units, of which the references take one
	a := committed(t, r, 1, "a", noise(1, 5000))
	table := r.Refs()
	l := files("a", noise(1, 5000), "b", "small", "c", noise(2, 5000))
	want := idOf(commitOf(l, note(2), a))
	for range 2 {
		if id, err := r.Plan(l, note(2)); id != want || err != api.OK {
			t.Errorf("Plan: %.8x, %d", id, err)
		}
		if id, err := r.Commit(l, note(2)); id != "" || err != api.ErrSpace {
			t.Errorf("Commit: %.8x, %d", id, err)
		}
		if x := r.Refs(); !sameTable(x, table) {
			t.Errorf("%s", shown(x))
		}
		contains(t, "no space", r, a, files("a", noise(1, 5000)))
		sound(t, "no space", r)
	}
	if x := text(t, d, idOf(blob("small"))); x != blob("small") {
		t.Errorf("the blob ahead of the one for which there was no space: %q", x)
	}
	if n, _ := beneath(t, d).s.Shape(); n != 4 {
		t.Errorf("%d texts", n)
	}
	r = open(t, d)
	takes(t, "with less", r, d, files("b", "small"), note(2), a)
}

// Commits till there is no space: for an object, or for the references.
func TestCommitsUntilFull(t *testing.T) {
	seen := map[api.Errno]int{}
	for n := 14; n < 60; n++ {
		r, d := fresh(t, n, 6)
		last, err := "", api.OK
		for i := 0; err == api.OK; i++ {
			before := r.Refs()
			var id string
			id, err = r.Commit(files("a", "x"), repo.Note{Text: strings.Repeat("t", 300), Time: i})
			if err == api.OK {
				last = id
				seen[r.Collect()]++
				continue
			}
			if x := r.Refs(); !sameTable(x, before) || id != "" {
				t.Errorf("%d sectors: %.8x, %s", n, id, shown(x))
			}
		}
		is(t, "Commit", err, api.ErrSpace)
		refers(t, "the last", r, "heads/main", last)
		sound(t, "the last", open(t, d))
	}
	if seen[api.OK] < 30 || seen[api.ErrSpace] < 10 || len(seen) != 2 {
		t.Errorf("%v", seen)
	}
}

// Nothing of the arguments is changed or kept, their spare capacity included.
func TestOwnMemory(t *testing.T) {
	r, d := fresh(t, 100, 30)
	l := append(make([]keydiff.Item, 0, 8), files("a", "x", "b", "y", "z", "spare")...)[:2]
	a := takes(t, "spare", r, d, l, note(1))
	if !slices.Equal(l[:3], files("a", "x", "b", "y", "z", "spare")) {
		t.Errorf("files: %q", l[:3])
	}
	clear(l[:8])
	contains(t, "cleared", r, a, files("a", "x", "b", "y"))
	u := append(make([]names.Update, 0, 8), names.Update{Name: "heads/b", New: a}, names.Update{Name: "spare"})[:1]
	ok(t, "Update", r.Update(u))
	if u[0] != (names.Update{Name: "heads/b", New: a}) || u[:2][1] != (names.Update{Name: "spare"}) {
		t.Errorf("updates: %q", u[:2])
	}
	clear(u[:8])
	refers(t, "cleared", r, "heads/b", a)
	x, err := r.Files(a)
	ok(t, "Files", err)
	clear(x[:cap(x)])
	contains(t, "cleared", r, a, files("a", "x", "b", "y"))
	for range 2 {
		log, err := r.Log(a)
		if err != api.OK || !slices.Equal(log, []string{a}) {
			t.Errorf("Log: %.8x, %d", log, err)
		}
		clear(log[:cap(log)])
	}
}

// P24.7

// A table that is too long for layer 17 is foretold as well.
func TestTableTooLong(t *testing.T) {
	r, d := fresh(t, 4096, 40)
	a := committed(t, r, 1, "a", "x")
	ok(t, "Branch", r.Branch("heads/b", a))
	b := committed(t, r, 1, "b", "x")
	var l []names.Update
	for i := range 5824 {
		l = append(l, names.Update{Name: fmt.Sprintf("tags/%04d", i), New: a})
	}
	ok(t, "Update", r.Update(l))
	ok(t, "Switch", r.Switch("heads/b"))
	size := len(encoded(r.Refs()))
	foretold := func(want api.Errno) bool {
		before := r.Refs()
		planned, plan := r.Plan(nil, note(size))
		id, err := r.Commit(nil, note(size))
		if planned != id || plan != err || err != api.OK && (err != want || id != "" || !sameTable(r.Refs(), before)) {
			t.Fatalf("Plan: %.8x, %d; Commit: %.8x, %d", planned, plan, id, err)
		}
		return err == api.OK
	}
	// Each Commit puts an update into the log that is longer than the one that it takes out.
	n := 0
	for foretold(api.ErrLong) {
		size = len(encoded(r.Refs()))
		ok(t, "Collect", r.Collect())
		n++
	}
	if n < 2 || size > api.MaxBody || size < api.MaxBody-30 {
		t.Errorf("%d commits, %d bytes", n, size)
	}
	// A Merge that needs no new commit has the same error.
	ok(t, "Update", r.Update([]names.Update{{Name: "tags/0000", Old: a}, {Name: "tags/0001", Old: a}}))
	ok(t, "Branch", r.Branch("heads/c", a))
	ok(t, "Switch", r.Switch("heads/c"))
	for foretold(api.ErrLong) {
		size++
	}
	id, _ := r.Refs().Get("heads/b")
	refers(t, "main", r, "heads/main", b)
	if x, err := r.PlanMerge("heads/c", note(1)); x == "" || err != api.OK {
		t.Errorf("PlanMerge of the head itself: %.8x, %d", x, err)
	}
	planned, plan := r.PlanMerge("heads/main", note(1))
	merged, _, err := r.Merge("heads/main", note(1))
	if planned != "" || merged != "" || plan != api.ErrLong || err != api.ErrLong {
		t.Errorf("PlanMerge: %.8x, %d; Merge: %.8x, %d", planned, plan, merged, err)
	}
	contains(t, "too long", r, id, nil)
	sound(t, "too long", open(t, d))
}

func TestTagOf(t *testing.T) {
	target := idOf("x")
	for _, x := range []struct{ name, part string }{
		{"tags/v1", "v1"}, {"tags/a/b/c.d", "c.d"}, {"tags/heads/x", "x"}, {"tags/" + strings.Repeat("a", 59), strings.Repeat("a", 59)},
	} {
		for _, text := range []string{"", "why", strings.Repeat("\x00", 4096)} {
			if id, err := repo.TagOf(x.name, target, text); id != idOf(tag(target, x.part, text)) || err != api.OK {
				t.Errorf("TagOf %s: %.8x, %d", x.name, id, err)
			}
		}
	}
	for _, x := range []struct {
		name, id, text string
		want           api.Errno
	}{
		{"", target, "", api.ErrName},
		{"v1", target, "", api.ErrName},
		{"tags/", target, "", api.ErrName},
		{"tags/a..b", target, "", api.ErrName},
		{"heads/a", target, "", api.ErrName},
		{"heads/a", "", strings.Repeat("x", 4097), api.ErrName},
		{"tags/" + strings.Repeat("a", 60), target, "", api.ErrName},
		{"tags/a", "", "", api.ErrArg},
		{"tags/a", target[1:], "", api.ErrArg},
		{"tags/a", target + "x", "", api.ErrArg},
		{"tags/a", target, strings.Repeat("x", 4097), api.ErrArg},
	} {
		if id, err := repo.TagOf(x.name, x.id, x.text); id != "" || err != x.want {
			t.Errorf("TagOf(%q, %.8x, ..): %.8x, %d; want %d", x.name, x.id, id, err, x.want)
		}
	}
}
