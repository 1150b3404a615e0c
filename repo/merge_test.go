package repo_test

import (
	"fmt"
	"slices"
	"strings"
	"testing"

	"stemma/api"
	"stemma/keydiff"
	"stemma/names"
	"stemma/repo"
	"stemma/sector"
	"stemma/treemerge"
)

// P24.5, P24.7

// foreseen says what PlanMerge must return, and that it writes nothing.
func foreseen(t *testing.T, what string, r *repo.Repo, d *sector.Disk, name string, n repo.Note, want string, wantErr api.Errno) {
	t.Helper()
	unchanged(t, what+": PlanMerge", d, func() {
		if id, err := r.PlanMerge(name, n); id != want || err != wantErr {
			t.Errorf("%s: PlanMerge: %.8x, %d; want %.8x, %d", what, id, err, want, wantErr)
		}
	})
}

// merges says that a Merge must return an ID, to which the head's branch refers then, and which has these files.
func merges(t *testing.T, what string, r *repo.Repo, d *sector.Disk, name string, n repo.Note, want string, l []keydiff.Item) {
	t.Helper()
	foreseen(t, what, r, d, name, n, want, api.OK)
	after := r.Refs()
	if old, _ := after.Get(after.Head); old != want {
		var err api.Errno
		after, err = after.Apply([]names.Update{{Name: after.Head, Old: old, New: want}}, "")
		ok(t, "Apply", err)
	}
	if id, conflicts, err := r.Merge(name, n); id != want || len(conflicts) > 0 || err != api.OK {
		t.Errorf("%s: Merge: %.8x, %v, %d; want %.8x", what, id, conflicts, err, want)
	}
	for _, r := range []*repo.Repo{r, open(t, d)} {
		if x := r.Refs(); !sameTable(x, after) {
			t.Errorf("%s: %s, want %s", what, shown(x), shown(after))
		}
		contains(t, what, r, want, l)
	}
}

// unmerged says that a Merge must have an error, and conflicts if any, and that nothing is written.
func unmerged(t *testing.T, what string, r *repo.Repo, d *sector.Disk, name string, n repo.Note, want api.Errno, conflicts ...treemerge.Conflict) {
	t.Helper()
	foreseen(t, what, r, d, name, n, "", want)
	before := r.Refs()
	unchanged(t, what, d, func() {
		id, l, err := r.Merge(name, n)
		same := slices.EqualFunc(l, conflicts, func(x, y treemerge.Conflict) bool {
			return x.Name == y.Name && x.What == y.What && slices.Equal(x.Items, y.Items)
		})
		if id != "" || !same || err != want {
			t.Errorf("%s: Merge: %.8x, %v, %d; want %v, %d", what, id, l, err, conflicts, want)
		}
	})
	if x := r.Refs(); !sameTable(x, before) {
		t.Errorf("%s: %s", what, shown(x))
	}
}

// sided returns a repository whose branches heads/main, the head, and heads/b have these files, with both commits; both have the parent base.
func sided(t *testing.T, base, ours, theirs []keydiff.Item) (r *repo.Repo, d *sector.Disk, a, b string) {
	t.Helper()
	r, d = fresh(t, 1000, 60)
	id, err := r.Commit(base, note(1))
	ok(t, "Commit", err)
	branched(t, r, "heads/b", id)
	b, err = r.Commit(theirs, note(2))
	ok(t, "Commit", err)
	ok(t, "Switch", r.Switch("heads/main"))
	a, err = r.Commit(ours, note(3))
	ok(t, "Commit", err)
	return r, d, a, b
}

func TestMerge(t *testing.T) {
	base := files("a.merges", "", "b", "1", "c", "1", "d.rules", "x 1\n", "e.vocab", "0 a\n", "f.chat", "1\n2\n3\n", "g", "both", "h", "gone")
	ours := files("a.merges", "a b\n", "b", "2", "c", "1", "d.rules", "x 1\ny 1\n", "e.vocab", "0 a\n1 b\n", "f.chat", "0\n1\n2\n3\n", "g", "same", "h", "gone", "i", "new")
	theirs := files("a.merges", "b c\n", "b", "1", "c", "3", "d.rules", "w 1\nx 1\n", "e.vocab", "0 a\n2 c\n", "f.chat", "1\n2\n3\n4\n", "g", "same", "j", "new")
	want := files("a.merges", "a b\nb c\n", "b", "2", "c", "3", "d.rules", "w 1\nx 1\ny 1\n", "e.vocab", "0 a\n1 b\n2 c\n", "f.chat", "0\n1\n2\n3\n4\n", "g", "same", "i", "new", "j", "new")
	r, d, a, b := sided(t, base, ours, theirs)
	n := repo.Note{Author: "who", Text: "for what", Time: 7}
	id := idOf(commitOf(want, n, a, b))
	merges(t, "all kinds", r, d, "heads/b", n, id, want)
	if x := text(t, d, id); x != commitOf(want, n, a, b) {
		t.Errorf("the commit is %q", x)
	}
	refers(t, "all kinds", r, "heads/b", b)
	sound(t, "all kinds", r)
	// Now one side has all of the other.
	unchanged(t, "again", d, func() { merges(t, "again", r, d, "heads/b", repo.Note{Time: -1}, id, want) })
	ok(t, "Switch", r.Switch("heads/b"))
	merges(t, "the other way round", r, d, "heads/main", repo.Note{Time: -1}, id, want)
	unchanged(t, "both are the same", d, func() { merges(t, "both are the same", r, d, "heads/main", repo.Note{Time: -1}, id, want) })
	unchanged(t, "the head itself", d, func() { merges(t, "the head itself", r, d, "heads/b", repo.Note{Time: -1}, id, want) })
}

// If the head's commit is reachable, only its branch moves.
func TestMergeForward(t *testing.T) {
	r, d := fresh(t, 200, 60)
	a := committed(t, r, 9, "a", "1")
	ok(t, "Branch", r.Branch("heads/b", a))
	committed(t, r, 5, "a", "2")
	c := committed(t, r, 1, "a", "3")
	unchanged(t, "an ancestor", d, func() { merges(t, "an ancestor", r, d, "heads/b", note(1), c, files("a", "3")) })
	ok(t, "Switch", r.Switch("heads/b"))
	n, _ := beneath(t, d).s.Shape()
	merges(t, "a descendant", r, d, "heads/main", repo.Note{Text: strings.Repeat("x", 5000)}, c, files("a", "3"))
	if m, _ := beneath(t, d).s.Shape(); m != n {
		t.Errorf("%d texts, %d before", m, n)
	}
	refers(t, "a descendant", r, "heads/b", c)
	refers(t, "a descendant", r, "heads/main", c)
}

func TestMergeNames(t *testing.T) {
	r, d := fresh(t, 200, 60)
	for _, name := range append(wrongNames(), "tags/a") {
		unmerged(t, "the name "+name, r, d, name, note(1), api.ErrName)
	}
	unmerged(t, "neither is", r, d, "heads/b", note(1), api.ErrNone)
	unmerged(t, "the head is not", r, d, "heads/main", note(1), api.ErrNone)
	id := committed(t, r, 1, "a", "x")
	unmerged(t, "that is not", r, d, "heads/b", note(1), api.ErrNone)
	ok(t, "Branch", r.Branch("heads/b", id))
	ok(t, "Tag", r.Tag("tags/v", id, ""))
	unmerged(t, "a tag", r, d, "tags/v", note(1), api.ErrName)
	merges(t, "the same", r, d, "heads/b", note(1), id, files("a", "x"))
	ok(t, "Update", r.Update([]names.Update{{Name: "heads/main", Old: id}}))
	unmerged(t, "the head is gone", r, d, "heads/b", note(1), api.ErrNone)
	unmerged(t, "the head is gone, and is named", r, d, "heads/main", note(1), api.ErrNone)
}

// Of several best common ancestors the one with the least ID is the base.
func TestMergeCrossed(t *testing.T) {
	seen := map[string]int{}
	for i := range 12 {
		r, d := fresh(t, 1000, 100)
		root := committed(t, r, i, "a", "root")
		branched(t, r, "heads/b", root)
		y := committed(t, r, i+1, "a", "root", "f", "y")
		ok(t, "Switch", r.Switch("heads/main"))
		x := committed(t, r, i+2, "a", "root", "f", "x")
		// Each of the two has the other one as its second parent, and its own text of f.
		m1 := commitOf(files("a", "root", "f", "x"), note(50), x, y)
		m2 := commitOf(files("a", "root", "f", "y"), note(60), y, x)
		plant(t, d, m1, m2)
		r = open(t, d)
		ok(t, "Update", r.Update([]names.Update{{Name: "heads/main", Old: x, New: idOf(m1)}, {Name: "heads/b", Old: y, New: idOf(m2)}}))
		// Of the two sides the one that has the base's text has not changed it.
		want := "y"
		if y < x {
			want = "x"
		}
		seen[want]++
		l := files("a", "root", "f", want)
		merges(t, "crossed", r, d, "heads/b", note(9), idOf(commitOf(l, note(9), idOf(m1), idOf(m2))), l)
	}
	if len(seen) != 2 {
		t.Errorf("%v", seen)
	}
}

// Without a common ancestor base has no files.
func TestMergeUnrelated(t *testing.T) {
	r, d := fresh(t, 200, 60)
	b := committed(t, r, 1, "a", "same", "b.merges", "a b\n", "c", "theirs")
	ok(t, "Branch", r.Branch("heads/b", b))
	ok(t, "Update", r.Update([]names.Update{{Name: "heads/main", Old: b}}))
	a := committed(t, r, 2, "a", "same", "b.merges", "c d\n", "d", "ours")
	l := files("a", "same", "b.merges", "c d\na b\n", "c", "theirs", "d", "ours")
	merges(t, "unrelated", r, d, "heads/b", note(3), idOf(commitOf(l, note(3), a, b)), l)
	unmerged(t, "unrelated, and of two minds", unrelated(t, d), d, "heads/c", note(3), api.ErrConflict, treemerge.Conflict{Name: "a", What: treemerge.File})
}

// unrelated adds a branch heads/c without parents that has another a.
func unrelated(t *testing.T, d *sector.Disk) *repo.Repo {
	t.Helper()
	l := files("a", "other")
	plant(t, d, blob("other"), treeOf(l), commitOf(l, note(5)))
	r := open(t, d)
	ok(t, "Branch", r.Branch("heads/c", idOf(commitOf(l, note(5)))))
	return r
}

// Conflicts are told, ahead of what is wrong with the note, and nothing has changed.
func TestMergeConflicts(t *testing.T) {
	base := files("a.merges", "a b\nb c\n", "b", "1", "c.chat", "1\n2\n3\n", "d.rules", "x 1\n", "e.vocab", "", "f", "1", "g", "1")
	ours := files("a.merges", "b c\na b\n", "b", "2", "c.chat", "1\nx\n3\n", "d.rules", "x 2\n", "e.vocab", "0 a\n", "f", "2", "g", "2")
	theirs := files("a.merges", "a b\nb c\nc d\n", "b", "3", "c.chat", "1\ny\n3\n", "d.rules", "x 3\n", "e.vocab", "1 a\n", "g", "1")
	_, want, err := treemerge.Merge(base, ours, theirs)
	ok(t, "treemerge", err)
	if len(want) < 5 {
		t.Fatalf("%v", want)
	}
	r, d, _, _ := sided(t, base, ours, theirs)
	for _, n := range []repo.Note{note(4), {Time: -1}} {
		unmerged(t, "conflicts", r, d, "heads/b", n, api.ErrConflict, want...)
	}
	_, l, _ := r.Merge("heads/b", note(4))
	for i := range l {
		clear(l[i].Items[:cap(l[i].Items)])
		l[i] = treemerge.Conflict{}
	}
	unmerged(t, "conflicts again", r, d, "heads/b", note(4), api.ErrConflict, want...)
}

// Without conflicts the errors are those of a Commit.
func TestMergeAsCommit(t *testing.T) {
	r, d, a, b := sided(t, nil, files("a", "1"), files("b", "2"))
	for _, n := range []repo.Note{
		{Author: strings.Repeat("a", 257)}, {Text: strings.Repeat("a", 4097)}, {Time: -1}, {Time: api.MaxNumber + 1},
	} {
		unmerged(t, "a wrong note", r, d, "heads/b", n, api.ErrArg)
	}
	l := files("a", "1", "b", "2")
	merges(t, "the right note", r, d, "heads/b", note(0), idOf(commitOf(l, note(0), a, b)), l)
}

// Files that only one side changed are merged whatever they are, but not committed.
func TestMergeInvalid(t *testing.T) {
	long := strings.Repeat("x", api.MaxBody)
	for name, x := range map[string]struct {
		text string
		want api.Errno
	}{"b.merges": {"ab c\n", api.ErrValid}, "c.rules": {"x", api.ErrForm}, "d.vocab": {"1 a\n0 b\n", api.ErrOrder}} {
		r, d, a, _ := sided(t, nil, files("a", "1"), nil)
		l := files(name, x.text, "z", long)
		c := commitOf(l, note(5))
		plant(t, d, blob(x.text), blob(long), treeOf(l), c)
		r = open(t, d)
		ok(t, "Branch", r.Branch("heads/c", idOf(c)))
		contains(t, name, r, idOf(c), l)
		unmerged(t, name, r, d, "heads/c", note(1), x.want)
		unmerged(t, name+", a wrong note", r, d, "heads/c", repo.Note{Time: -1}, x.want)
		ok(t, "Update", r.Update([]names.Update{{Name: "heads/main", Old: a, New: idOf(c)}}))
		ok(t, "Branch", r.Branch("heads/d", a))
		unmerged(t, name+", on our side", r, d, "heads/d", note(1), x.want)
	}
}

// Two trees that are both possible may be too much together.
func TestMergeTooMuch(t *testing.T) {
	many := func(prefix string, n, size int) []keydiff.Item {
		var l []keydiff.Item
		for i := range n {
			l = append(l, keydiff.Item{Key: prefix + fmt.Sprintf("%0*d", size, i)})
		}
		return l
	}
	for what, x := range map[string]struct {
		n, size int
		want    api.Errno
	}{"items": {2049, 4, api.ErrArg}, "bytes": {1500, 60, api.ErrLong}} {
		ours, theirs := many("a", x.n, x.size), many("b", x.n, x.size)
		r, d, a, b := sided(t, nil, ours, theirs)
		unmerged(t, what, r, d, "heads/b", note(1), x.want)
		// With less it is possible.
		if what == "items" {
			ok(t, "Update", r.Update([]names.Update{{Name: "heads/main", Old: a}}))
			committedAll(t, r, ours[:2047])
			a, _ = r.Refs().Get("heads/main")
			l := slices.Concat(ours[:2047], theirs)
			merges(t, what, r, d, "heads/b", note(2), idOf(commitOf(l, note(2), a, b)), l)
		}
	}
}

// committedAll commits a list of files.
func committedAll(t *testing.T, r *repo.Repo, l []keydiff.Item) string {
	t.Helper()
	id, err := r.Commit(l, note(1))
	ok(t, "Commit", err)
	return id
}

// The errors of what the two commits reach come ahead of everything but the names.
func TestMergeErrors(t *testing.T) {
	k := ofAllKinds()
	tree := idOf(k.tree)
	missing := commit(idOf("none"), note(1))
	orphan := commit(tree, note(2), idOf("none"))
	wrongTree := commit(idOf(k.blob), note(3))
	seen := map[api.Errno]int{}
	for what, ids := range map[string][2]string{
		"no tree":           {idOf(missing), idOf(k.commit)},
		"no tree, theirs":   {idOf(k.commit), idOf(missing)},
		"no tree, the same": {idOf(missing), idOf(missing)},
		"no parent":         {idOf(orphan), idOf(k.commit)},
		"no parent, theirs": {idOf(k.commit), idOf(orphan)},
		"a blob as a tree":  {idOf(k.commit), idOf(wrongTree)},
		"both":              {idOf(missing), idOf(wrongTree)},
		"both, otherwise":   {idOf(wrongTree), idOf(orphan)},
		"a branch's commit": {idOf("lost"), idOf(k.commit)},
		"theirs is missing": {idOf(k.commit), idOf("lost")},
		"theirs is none":    {idOf(k.commit), idOf(k.junk)},
	} {
		_, d := planted(t, append(k.all(), missing, orphan, wrongTree)...)
		referring(t, d, names.Table{Head: "heads/main", Refs: []names.Ref{{Name: "heads/b", ID: ids[1]}, {Name: "heads/main", ID: ids[0]}}})
		r := open(t, d)
		// Only what the two commits reach counts, and of that the least ID.
		var reached []string
		for _, id := range ids {
			switch id {
			case idOf(missing), idOf(orphan):
				reached = append(reached, idOf("none"))
			case idOf(wrongTree):
				reached = append(reached, idOf(k.blob))
			default:
				reached = append(reached, id)
			}
		}
		slices.Sort(reached)
		want := map[string]api.Errno{idOf("none"): api.ErrNone, idOf("lost"): api.ErrNone, idOf(k.blob): api.ErrKind, idOf(k.junk): api.ErrForm}
		first := want[reached[0]]
		if first == api.OK {
			first = want[reached[1]]
		}
		unmerged(t, what, r, d, "heads/b", repo.Note{Time: -1}, first)
		seen[first]++
	}
	if len(seen) != 3 {
		t.Errorf("%v", seen)
	}
	// A branch that another program made refer to what is no commit.
	for _, id := range []string{idOf(k.blob), tree} {
		for _, ids := range [][2]string{{id, idOf(k.commit)}, {idOf(k.commit), id}} {
			_, d := planted(t, k.all()...)
			referring(t, d, names.Table{Head: "heads/main", Refs: []names.Ref{{Name: "heads/b", ID: ids[1]}, {Name: "heads/main", ID: ids[0]}}})
			unmerged(t, "no commit", open(t, d), d, "heads/b", note(1), api.ErrKind)
		}
	}
}

// A Merge without space has the error where PlanMerge has the ID, and the table stays.
func TestMergeWithoutSpace(t *testing.T) {
	seen := map[api.Errno]int{}
	for n := 42; n < 52; n++ {
		r, d := fresh(t, n, 20)
		a := committed(t, r, 1, "a", "1", "b", "1")
		ok(t, "Branch", r.Branch("heads/b", a))
		ok(t, "Branch", r.Branch("heads/c", a))
		a = committed(t, r, 2, "a", "2", "b", "1")
		ok(t, "Switch", r.Switch("heads/b"))
		b := committed(t, r, 3, "a", "1", "b", noise(1, 3000))
		l := files("a", "2", "b", noise(1, 3000))
		want := idOf(commitOf(l, note(4), b, a))
		foreseen(t, "no space", r, d, "heads/main", note(4), want, api.OK)
		before := r.Refs()
		id, conflicts, err := r.Merge("heads/main", note(4))
		seen[err]++
		if err == api.OK && id != want || err != api.OK && id != "" || len(conflicts) != 0 {
			t.Errorf("Merge: %.8x, %v, %d", id, conflicts, err)
		}
		for _, r := range []*repo.Repo{r, open(t, d)} {
			if x := r.Refs(); err != api.OK && !sameTable(x, before) {
				t.Errorf("%d sectors: %s", n, shown(x))
			}
			contains(t, "no space", r, b, files("a", "1", "b", noise(1, 3000)))
			sound(t, "no space", r)
		}
	}
	if seen[api.OK] < 3 || seen[api.ErrSpace] < 2 || len(seen) != 2 {
		t.Errorf("%v", seen)
	}
}
