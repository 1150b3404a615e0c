package sweep_test

import (
	"fmt"
	"slices"
	"testing"

	"stemma/api"
	"stemma/sector"
	"stemma/sweep"
)

// P23.3

func TestCheckUnreachable(t *testing.T) {
	b := blob("b")
	s, f, _ := fresh(t, b, "no object", "", "\x01", "\xff", tree(idOf("none")), commit(1, idOf(b)), tag("t", idOf(b)), tree(idOf("no object")))
	checks(t, "whatever can be read", s, nil)
	checks(t, "whatever can be read, a root", s, idsOf(b))
	// what it has that can't be read is told, be it reachable or not
	ok(t, "Write", f.Write(looseName(idOf("other")), "x"))
	ok(t, "Write", f.Write(named(1), onePack(idOf("item"), "x")))
	ok(t, "Write", f.Write(named(2), brokenPack(idOf("broken"))))
	s = open(t, f)
	corrupt := []sweep.Fault{{ID: idOf("other"), Code: api.ErrCorrupt}, {ID: idOf("item"), Code: api.ErrCorrupt}, {ID: idOf("broken"), Code: api.ErrCorrupt}}
	checks(t, "not reachable", s, nil, corrupt...)
	checks(t, "others", s, idsOf(b), corrupt...)
	checks(t, "reachable", s, idsOf("other", "item", "broken"), corrupt...)
	checks(t, "one is missing too", s, idsOf("other", "missing"), append(corrupt, sweep.Fault{ID: idOf("missing"), Code: api.ErrNone})...)
	if l, err := sweep.Reach(s, idsOf(b)); err != api.OK || !slices.Equal(l, idsOf(b)) {
		t.Errorf("Reach of what is right: %.8x, %d", l, err)
	}
}

// Each ID is told once, however often it is named.
func TestCheckOnce(t *testing.T) {
	none := idOf("none")
	a, b := tree(none, none, none), tree(none)
	s, _, _ := fresh(t, a, b, "junk")
	roots := []string{none, idOf(a), none, idOf(b), idOf("junk"), idOf(a), idOf("junk")}
	refuses(t, "often", s, roots, least([]sweep.Fault{{ID: none, Code: api.ErrNone}, {ID: idOf("junk"), Code: api.ErrForm}}),
		sweep.Fault{ID: none, Code: api.ErrNone}, sweep.Fault{ID: idOf("junk"), Code: api.ErrForm})
}

// P23.1 to P23.3, of many objects

func TestLongHistory(t *testing.T) {
	root := tree()
	l := []string{root}
	for i := range api.MaxItems - 1 {
		var parents []string
		if i > 0 {
			parents = append(parents, idOf(l[i]))
		}
		l = append(l, commit(i, idOf(root), parents...))
	}
	s, _, d := packed(t, api.MaxSectors, 4, l...)
	last := []string{idOf(l[len(l)-1])}
	reaches(t, "long", s, last, idsOf(l...)...)
	nodes, err := sweep.Commits(s, last)
	if err != api.OK || len(nodes) != len(l)-1 {
		t.Errorf("Commits: %d, %d", len(nodes), err)
	}
	for _, n := range nodes {
		if n.Time > 0 && !slices.Equal(n.Parents, []string{idOf(l[n.Time])}) || n.Time == 0 && len(n.Parents) > 0 {
			t.Fatalf("the parents of commit %d: %.8x", n.Time, n.Parents)
		}
	}
	collected(t, "half", d, s, []string{idOf(l[api.MaxItems/2])}, l[:api.MaxItems/2+1]...)
	_, err = sweep.Commits(open(t, mount(t, d)), last)
	if err != api.ErrNone {
		t.Errorf("what was removed: %d", err)
	}
}

func TestLargeTree(t *testing.T) {
	var missing []string
	var faults []sweep.Fault
	for i := range api.MaxItems {
		id := idOf(fmt.Sprint(i))
		missing = append(missing, id)
		faults = append(faults, sweep.Fault{ID: id, Code: api.ErrNone})
	}
	data := tree(missing...)
	s, _, _ := fresh(t, data)
	refuses(t, "large", s, idsOf(data), api.ErrNone, faults...)
}

// Arguments stay as they are, their spare capacity too, and nothing of a result is shared.
func TestOwnMemory(t *testing.T) {
	m := small()
	s, _, d := fresh(t, all(m)...)
	want := idsOf(m["both"], m["tag"])
	slices.Reverse(want)
	roots := append(append(make([]string, 0, 8), want...), "spare", "spare")[:2]
	bad := append(append(make([]string, 0, 8), idOf("none"), "no ID", idOf("none")), "spare", "spare")[:3]
	for range 2 {
		first, _ := sweep.Reach(s, roots)
		second, _ := sweep.Reach(s, roots)
		overwrite(first, "changed")
		if !slices.IsSorted(second) || !slices.Contains(second, idOf(m["both"])) || len(second) != 11 {
			t.Fatalf("Reach: %.8x", second)
		}
		nodes, _ := sweep.Commits(s, roots)
		again, _ := sweep.Commits(s, roots)
		for _, n := range nodes {
			overwrite(n.Parents, "changed")
		}
		for _, n := range again {
			if slices.Contains(n.Parents, "changed") {
				t.Fatal("two results share parents")
			}
		}
		if l := sweep.Check(s, bad); len(l) != 2 {
			t.Fatal(told(l))
		}
		if !slices.Equal(roots[:4], append(slices.Clone(want), "spare", "spare")) || !slices.Equal(bad[:5], []string{idOf("none"), "no ID", idOf("none"), "spare", "spare"}) {
			t.Fatal("an argument has changed")
		}
	}
	if err := sweep.Collect(s, roots); err != api.OK || !slices.Equal(roots[:4], append(slices.Clone(want), "spare", "spare")) {
		t.Fatalf("Collect: %d, %.8x", err, roots[:4])
	}
	delete(m, "lone")
	reaches(t, "collected", open(t, mount(t, d)), roots, idsOf(all(m)...)...)
}

// overwrite writes x over all of l, its spare capacity too.
func overwrite[T any](l []T, x T) {
	l = l[:cap(l)]
	for i := range l {
		l[i] = x
	}
}

// P4

// Whenever the power fails in a Collect, whatever is kept: what is reachable can be read, and the next Collect does the rest.
func TestPowerFails(t *testing.T) {
	m := small()
	_, _, d := fresh(t, texts(m, "one", "two", "three", "lone", "old", "new", "none", "first", "left", "right", "tag")...)
	before, _ := content(t, d)
	roots := idsOf(m["left"])
	want := texts(m, "left", "first", "old", "new", "one", "two", "three")
	for _, keep := range [][]int{nil, {1}, {0, 1}, {1, 0, 0}} {
		failed := 0
		for n := 1; ; n++ {
			lay(d, before)
			s := open(t, mount(t, d))
			d.Cut(n, keep...)
			err := sweep.Collect(s, roots)
			cut := d.Off()
			d.On()
			if (err == api.ErrPower) != cut || !cut && err != api.OK {
				t.Fatalf("command %d: Collect: %d", n, err)
			}
			survived(t, fmt.Sprint("command ", n), d, roots, want)
			if !cut {
				break
			}
			failed++
		}
		if failed < 20 {
			t.Errorf("the power failed %d times", failed)
		}
	}
}

// survived says that all of want is there after the power was cut, and how a Collect then ends.
func survived(t *testing.T, what string, d *sector.Disk, roots, want []string) {
	t.Helper()
	s := open(t, mount(t, d))
	if l, err := sweep.Reach(s, roots); err != api.OK || !slices.Equal(l, idsOf(want...)) {
		t.Errorf("%s: Reach: %.8x, %d", what, l, err)
	}
	for _, x := range sweep.Check(s, roots) {
		t.Errorf("%s: Check: %.8x, %d", what, x.ID, x.Code)
	}
	collected(t, what, d, s, roots, want...)
}
