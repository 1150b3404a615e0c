package sweep_test

import (
	"fmt"
	"slices"
	"strings"
	"testing"

	"stemma/api"
	"stemma/graph"
	"stemma/sector"
	"stemma/shelf"
	"stemma/sweep"
)

// small are the objects of a small repository, by what they are called.
func small() map[string]string {
	m := map[string]string{"one": blob("1"), "two": blob("2"), "three": blob("3"), "lone": blob("lone")}
	m["old"] = tree(idOf(m["one"]), idOf(m["two"]))
	m["new"] = tree(idOf(m["two"]), idOf(m["three"]), idOf(m["two"]))
	m["none"] = tree()
	m["first"] = commit(1, idOf(m["old"]))
	m["left"] = commit(9, idOf(m["new"]), idOf(m["first"]))
	m["right"] = commit(3, idOf(m["none"]), idOf(m["first"]))
	m["both"] = commit(4, idOf(m["old"]), idOf(m["right"]), idOf(m["left"]))
	m["tag"] = tag("v1", idOf(m["left"]))
	return m
}

// texts returns those of m that are called so.
func texts(m map[string]string, called ...string) []string {
	var l []string
	for _, x := range called {
		l = append(l, m[x])
	}
	return l
}

// all returns all texts of m, in any order.
func all(m map[string]string) []string {
	var l []string
	for _, data := range m {
		l = append(l, data)
	}
	return l
}

// P23.1

func TestExample(t *testing.T) {
	missing := idOf(tree())
	c := commit(1, missing)
	s, _, _ := fresh(t, c)
	refuses(t, "a commit without its tree", s, idsOf(c), api.ErrNone, sweep.Fault{ID: missing, Code: api.ErrNone})
}

func TestReach(t *testing.T) {
	m := small()
	loose, _, _ := fresh(t, all(m)...)
	inPack, _, _ := packed(t, 100, 10, all(m)...)
	for what, s := range map[string]*shelf.Shelf{"loose": loose, "in a pack": inPack} {
		for _, x := range []struct{ roots, want []string }{
			{nil, nil},
			{[]string{"one"}, []string{"one"}},
			{[]string{"none"}, []string{"none"}},
			{[]string{"new"}, []string{"new", "two", "three"}},
			{[]string{"first"}, []string{"first", "old", "one", "two"}},
			{[]string{"right"}, []string{"right", "none", "first", "old", "one", "two"}},
			{[]string{"tag"}, []string{"tag", "left", "new", "three", "first", "old", "one", "two"}},
			{[]string{"both"}, []string{"both", "right", "left", "first", "old", "new", "none", "one", "two", "three"}},
			// several, of any kinds, more than once
			{[]string{"lone", "none", "lone"}, []string{"lone", "none"}},
			{[]string{"right", "tag", "right"}, []string{"tag", "left", "right", "first", "new", "old", "none", "one", "two", "three"}},
			{[]string{"two", "old", "first"}, []string{"first", "old", "one", "two"}},
			{[]string{"first", "old", "two"}, []string{"first", "old", "one", "two"}},
		} {
			var roots []string
			for _, name := range x.roots {
				roots = append(roots, idOf(m[name]))
			}
			reaches(t, fmt.Sprint(what, x.roots), s, roots, idsOf(texts(m, x.want...)...)...)
		}
	}
}

// What is wrong with an object that something else names.
func TestKinds(t *testing.T) {
	b := blob("b")
	tr := tree(idOf(b))
	c := commit(1, idOf(tr))
	g := tag("g", idOf(c))
	for what, x := range map[string]struct{ root, wrong string }{
		"a blob as the tree":     {commit(2, idOf(b)), b},
		"a commit as the tree":   {commit(2, idOf(c)), c},
		"a tag as the tree":      {commit(2, idOf(g)), g},
		"a tree as an entry":     {tree(idOf(b), idOf(tr)), tr},
		"a commit as an entry":   {tree(idOf(c)), c},
		"a tag as an entry":      {tree(idOf(g), idOf(b)), g},
		"a blob as a parent":     {commit(2, idOf(tr), idOf(b)), b},
		"a tree as a parent":     {commit(2, idOf(tr), idOf(tr)), tr},
		"a tag as a parent":      {commit(2, idOf(tr), idOf(c), idOf(g)), g},
		"a blob as a target":     {tag("h", idOf(b)), b},
		"a tree as a target":     {tag("h", idOf(tr)), tr},
		"a tag as a target":      {tag("h", idOf(g)), g},
		"the tree as the parent": {commit(2, idOf(c), idOf(c)), c},
	} {
		s, _, _ := fresh(t, b, tr, c, g, x.root)
		refuses(t, what, s, idsOf(x.root), api.ErrKind, sweep.Fault{ID: idOf(x.wrong), Code: api.ErrKind})
		// that it may itself be of any kind does not help
		refuses(t, what+", a root too", s, idsOf(x.root, x.wrong), api.ErrKind, sweep.Fault{ID: idOf(x.wrong), Code: api.ErrKind})
		checks(t, what+", not reachable", s, nil)
		reaches(t, what+", others", s, idsOf(g), idsOf(g, c, tr, b)...)
	}
}

// An object of which several kinds are required, whichever comes first, is wrong for one of them.
func TestSeveralKinds(t *testing.T) {
	b := blob("b")
	for what, x := range map[string]string{"a tree": tree(idOf(b)), "a blob": b, "a commit": commit(1, idOf(tree()))} {
		asEntry, asTree, asParent := tree(idOf(x)), commit(5, idOf(x)), commit(6, idOf(tree()), idOf(x))
		s, _, _ := fresh(t, b, x, tree(), asEntry, asTree, asParent)
		fault := sweep.Fault{ID: idOf(x), Code: api.ErrKind}
		for _, l := range [][]string{{asEntry, asTree}, {asTree, asEntry}, {asParent, asEntry}, {asEntry, asParent}, {asTree, asParent}, {asParent, asTree}} {
			refuses(t, what, s, []string{idOf(l[0]), idOf(l[1])}, api.ErrKind, fault)
			refuses(t, what, s, []string{idOf(x), idOf(l[0]), idOf(x), idOf(l[1]), idOf(x)}, api.ErrKind, fault)
		}
	}
}

// What an object of the wrong kind names is reachable; of what has another error nothing is.
func TestBeyondErrors(t *testing.T) {
	none, junk := idOf("none"), "no object"
	c := commit(1, none)
	inner := tree(idOf(c), idOf(junk))
	s, f, _ := fresh(t, c, inner, junk, tree(idOf(inner)))
	root := idsOf(tree(idOf(inner)))
	faults := []sweep.Fault{{ID: idOf(inner), Code: api.ErrKind}, {ID: idOf(c), Code: api.ErrKind}, {ID: none, Code: api.ErrNone}, {ID: idOf(junk), Code: api.ErrForm}}
	refuses(t, "wrong kinds", s, root, least(faults), faults...)
	ok(t, "Write", f.Write(looseName(idOf(inner)), inner[:len(inner)-1]))
	refuses(t, "an error", s, root, api.ErrCorrupt, sweep.Fault{ID: idOf(inner), Code: api.ErrCorrupt})
	checks(t, "an error, not reachable", s, idsOf(c), sweep.Fault{ID: idOf(inner), Code: api.ErrCorrupt}, sweep.Fault{ID: none, Code: api.ErrNone})
}

func TestNoObject(t *testing.T) {
	b := blob("b")
	for what, data := range map[string]string{
		"nothing":             "",
		"no kind":             "\x05\x00",
		"kind 0":              "\x00",
		"a blob and more":     b + "x",
		"a blob cut off":      b[:len(b)-1],
		"a short commit":      "\x03\x20" + idOf(b),
		"a tree of no IDs":    "\x02\x01a\x01b",
		"a long length":       "\x01\xc5\x00\x00",
		"a tag of no name":    "\x04\x20" + idOf(b) + "\x00\x00",
		"a number with tails": "\x01\x80\x01a",
	} {
		form := sweep.Fault{ID: idOf(data), Code: api.ErrForm}
		for _, holder := range []string{tree(idOf(data)), commit(1, idOf(data)), commit(2, idOf(tree()), idOf(data)), tag("t", idOf(data))} {
			s, _, d := fresh(t, data, holder, tree())
			unchanged(t, what, d, func() {
				refuses(t, what, s, idsOf(data), api.ErrForm, form)
				refuses(t, what+", named", s, idsOf(holder), api.ErrForm, form)
				// what is not reachable need be no object
				reaches(t, what+", not reachable", s, idsOf(tree()), idOf(tree()))
			})
		}
	}
}

// Of the errors of one ID that of its text comes first, then whether it is an object, then its kind.
func TestErrorOrder(t *testing.T) {
	b := blob("b")
	wrong := tree(idOf(b))
	asTree := commit(1, idOf(b))
	s, f, _ := fresh(t, b, wrong, asTree)
	ok(t, "Write", f.Write(looseName(idOf(b)), "no object"))
	refuses(t, "corrupt, no object, of any kind", s, idsOf(asTree), api.ErrCorrupt, sweep.Fault{ID: idOf(b), Code: api.ErrCorrupt})
	ok(t, "Write", f.Write(looseName(idOf(b)), wrong))
	refuses(t, "corrupt, of the right kind", s, idsOf(asTree), api.ErrCorrupt, sweep.Fault{ID: idOf(b), Code: api.ErrCorrupt})
	ok(t, "Write", f.Write(looseName(idOf(b)), b))
	refuses(t, "of another kind", s, idsOf(asTree), api.ErrKind, sweep.Fault{ID: idOf(b), Code: api.ErrKind})
	checks(t, "of any kind", s, idsOf(wrong))
}

// least returns the error of the least ID.
func least(faults []sweep.Fault) api.Errno {
	return slices.MinFunc(faults, func(a, b sweep.Fault) int { return strings.Compare(a.ID, b.ID) }).Code
}

// Of several IDs with errors that of the least one is returned.
func TestLeast(t *testing.T) {
	b := blob("b")
	one, two, three := tree(idOf(b)), tree(idOf(b), idOf(b)), "junk"
	var wrong []sweep.Fault
	for _, x := range []string{one, two} {
		wrong = append(wrong, sweep.Fault{ID: idOf(x), Code: api.ErrKind})
	}
	wrong = append(wrong, sweep.Fault{ID: idOf(three), Code: api.ErrForm}, sweep.Fault{ID: idOf("none"), Code: api.ErrNone}, sweep.Fault{ID: "", Code: api.ErrArg}, sweep.Fault{ID: "\xff", Code: api.ErrArg})
	s, _, _ := fresh(t, b, one, two, three)
	// each subset of them
	for set := 1; set < 1<<len(wrong); set++ {
		var faults []sweep.Fault
		var linked, roots []string
		for i, x := range wrong {
			if set>>i&1 == 0 {
				continue
			}
			faults = append(faults, x)
			if len(x.ID) == 32 {
				linked = append(linked, x.ID)
			} else {
				roots = append(roots, x.ID)
			}
		}
		holder := tree(linked...)
		stored(t, s, holder)
		roots = append(roots, idOf(holder))
		refuses(t, fmt.Sprint("set ", set), s, roots, least(faults), faults...)
		if set%16 == 15 {
			ok(t, "Repack", s.Repack(idsOf(b, one, two, three)))
		}
	}
}

// Every text may be given as a root.
func TestRootsOfAnyText(t *testing.T) {
	s, _, _ := fresh(t, blob("b"))
	for _, root := range []string{"", "a", idOf("b")[:31], idOf("b") + "\x00", looseName(idOf(blob("b"))), fmt.Sprintf("%x", idOf(blob("b")))} {
		refuses(t, fmt.Sprintf("%q", root), s, []string{root}, api.ErrArg, sweep.Fault{ID: root, Code: api.ErrArg})
		refuses(t, fmt.Sprintf("%q and others", root), s, []string{root, idOf(blob("b")), root}, api.ErrArg, sweep.Fault{ID: root, Code: api.ErrArg})
	}
}

func TestNil(t *testing.T) {
	id := idOf(blob("b"))
	refuses(t, "nil", nil, []string{id, "", id}, api.ErrArg, sweep.Fault{ID: "", Code: api.ErrArg}, sweep.Fault{ID: id, Code: api.ErrArg})
	// without roots nothing has an error
	reaches(t, "nil, no roots", nil, nil)
	if l, err := sweep.Commits(nil, nil); len(l) != 0 || err != api.OK {
		t.Errorf("Commits: %v, %d", l, err)
	}
	if err := sweep.Collect(nil, nil); err != api.ErrArg {
		t.Errorf("Collect: %d", err)
	}
}

func TestWithoutPower(t *testing.T) {
	m := small()
	s, _, d := fresh(t, all(m)...)
	var faults []sweep.Fault
	for _, data := range m {
		faults = append(faults, sweep.Fault{ID: idOf(data), Code: api.ErrPower})
	}
	faults = append(faults, sweep.Fault{ID: idOf("none"), Code: api.ErrPower})
	off(d)
	refuses(t, "without power", s, idsOf(m["one"], "none"), api.ErrPower, faults...)
	refuses(t, "without power, a root that is no ID", s, []string{idOf("none"), ""}, api.ErrArg, append(faults, sweep.Fault{ID: "", Code: api.ErrArg})...)
	if err := sweep.Collect(s, nil); err != api.ErrPower {
		t.Errorf("Collect: %d", err)
	}
}

// No call of a shelf that was made by hand panics (P1).
func TestByHand(t *testing.T) {
	s := new(shelf.Shelf)
	for _, roots := range [][]string{nil, {""}, idsOf("a")} {
		sweep.Reach(s, roots)
		sweep.Commits(s, roots)
		sweep.Collect(s, roots)
		sweep.Check(s, roots)
	}
}

// P23.2

func TestCommits(t *testing.T) {
	m := small()
	s, _, _ := fresh(t, all(m)...)
	first, left, right, both := idOf(m["first"]), idOf(m["left"]), idOf(m["right"]), idOf(m["both"])
	nodes := map[string]graph.Node{
		"first": {ID: first, Time: 1},
		"left":  {ID: left, Parents: []string{first}, Time: 9},
		"right": {ID: right, Parents: []string{first}, Time: 3},
		"both":  {ID: both, Parents: []string{right, left}, Time: 4},
	}
	for _, x := range []struct{ roots, want []string }{
		{nil, nil},
		{[]string{"one", "new", "none"}, nil},
		{[]string{"first"}, []string{"first"}},
		{[]string{"right", "one", "right"}, []string{"first", "right"}},
		{[]string{"tag"}, []string{"first", "left"}},
		{[]string{"both"}, []string{"first", "left", "right", "both"}},
		{[]string{"tag", "right"}, []string{"first", "left", "right"}},
	} {
		var roots []string
		for _, name := range x.roots {
			roots = append(roots, idOf(m[name]))
		}
		var want []graph.Node
		for _, name := range x.want {
			want = append(want, nodes[name])
		}
		slices.SortFunc(want, func(a, b graph.Node) int { return strings.Compare(a.ID, b.ID) })
		l, err := sweep.Commits(s, roots)
		if err != api.OK || !sameNodes(l, want) {
			t.Errorf("%v: %v, %d", x.roots, l, err)
		}
		if _, err := graph.New(l); err != api.OK {
			t.Errorf("%v: graph: %d", x.roots, err)
		}
	}
	// times from one end to the other, and as many parents as there may be
	var parents []string
	for i := range api.MaxParents {
		p := commit(i, idOf(m["none"]))
		stored(t, s, p)
		parents = append(parents, idOf(p))
	}
	slices.Reverse(parents)
	last := commit(api.MaxNumber, idOf(m["none"]), parents...)
	stored(t, s, last)
	l, err := sweep.Commits(s, idsOf(last))
	at := slices.IndexFunc(l, func(n graph.Node) bool { return n.ID == idOf(last) })
	if err != api.OK || len(l) != 1+api.MaxParents || at < 0 || l[at].Time != api.MaxNumber || !slices.Equal(l[at].Parents, parents) {
		t.Errorf("Commits: %v, %d", l, err)
	}
}

// collected says that a Collect must keep just these texts.
func collected(t *testing.T, what string, d *sector.Disk, s *shelf.Shelf, roots []string, want ...string) {
	t.Helper()
	if err := sweep.Collect(s, roots); err != api.OK {
		t.Errorf("%s: Collect: %d", what, err)
	}
	for range 2 {
		if l := s.IDs(); !slices.Equal(l, idsOf(want...)) {
			t.Errorf("%s: IDs: %.8x; want %.8x", what, l, idsOf(want...))
		}
		for _, data := range want {
			if x, err := s.Get(idOf(data)); x != data || err != api.OK {
				t.Errorf("%s: Get(%.8x): %d", what, idOf(data), err)
			}
		}
		loose, packs := s.Shape()
		if loose != 0 || packs != min(len(want), 1) {
			t.Errorf("%s: Shape: %d, %d", what, loose, packs)
		}
		s = open(t, mount(t, d))
	}
}

func TestCollect(t *testing.T) {
	m := small()
	for _, x := range []struct{ roots, want []string }{
		{nil, nil},
		{[]string{"none"}, []string{"none"}},
		{[]string{"lone", "new"}, []string{"lone", "new", "two", "three"}},
		{[]string{"right"}, []string{"right", "none", "first", "old", "one", "two"}},
		{[]string{"tag", "tag"}, []string{"tag", "left", "new", "three", "first", "old", "one", "two"}},
		{[]string{"both", "tag", "lone"}, []string{"both", "right", "left", "first", "old", "new", "none", "one", "two", "three", "tag", "lone"}},
	} {
		var roots []string
		for _, name := range x.roots {
			roots = append(roots, idOf(m[name]))
		}
		loose, _, d := fresh(t, append(all(m), "no object", "\x01\x00x")...)
		collected(t, fmt.Sprint("loose ", x.roots), d, loose, roots, texts(m, x.want...)...)
		inPack, _, d := packed(t, 100, 20, append(all(m), "no object", "\x01\x00x")...)
		stored(t, inPack, "no object", "other", blob("other"))
		collected(t, fmt.Sprint("in a pack ", x.roots), d, inPack, roots, texts(m, x.want...)...)
	}
}

// A Collect that has an error leaves all as it is.
func TestCollectErrors(t *testing.T) {
	m := small()
	big := blob(string(make([]byte, 30*512)))
	s, _, d := fresh(t, append(all(m), "junk", big)...)
	for what, x := range map[string]struct {
		root string
		want api.Errno
	}{
		"a missing object": {tree(idOf("none")), api.ErrNone},
		"no object":        {tree(idOf("junk")), api.ErrForm},
		"another kind":     {tag("t", idOf(m["one"])), api.ErrKind},
	} {
		stored(t, s, x.root)
		unchanged(t, what, d, func() {
			if err := sweep.Collect(s, idsOf(m["both"], x.root)); err != x.want {
				t.Errorf("%s: %d; want %d", what, err, x.want)
			}
		})
	}
	off(d)
	if err := sweep.Collect(s, idsOf(m["both"])); err != api.ErrPower {
		t.Errorf("without power: %d", err)
	}
	d.On()
	s = open(t, mount(t, d))
	unchanged(t, "after the power was off", d, func() {
		reaches(t, "all", s, idsOf(m["both"], big, m["lone"], m["tag"]), idsOf(append(all(m), big)...)...)
	})
}

// The errors of a Repack are those of a Collect: there is no space for a pack, or it would have too many items.
func TestCollectLimits(t *testing.T) {
	var l []string
	for i := range 8 {
		l = append(l, blob(noise(i, 600)))
	}
	d, err := sector.New(8 + 10 + 17)
	ok(t, "New", err)
	s := opened(t, d, 10)
	stored(t, s, l...)
	if err := sweep.Collect(s, idsOf(l...)); err != api.ErrSpace {
		t.Errorf("without space: %d", err)
	}
	checks(t, "without space", s, idsOf(l...))
	collected(t, "some space", d, open(t, mount(t, d)), nil)
	// as many as a pack may have are reachable, and one more
	var many []string
	for i := range api.MaxItems {
		many = append(many, blob(fmt.Sprint(i)))
	}
	most := many[:api.MaxItems-1]
	root := tree(idsOf(most...)...)
	s, _, d = packed(t, api.MaxSectors, 20, append(slices.Clone(most), "junk")...)
	stored(t, s, root, many[len(many)-1])
	unchanged(t, "too many", d, func() {
		if err := sweep.Collect(s, idsOf(root, many[len(many)-1])); err != api.ErrLong {
			t.Errorf("too many: %d", err)
		}
	})
	collected(t, "many", d, s, idsOf(root), append(slices.Clone(most), root)...)
}
