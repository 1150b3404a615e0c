package keydiff_test

import (
	"fmt"
	"math/rand"
	"slices"
	"strings"
	"testing"

	"stemma/api"
	"stemma/keydiff"
)

// items returns the list that s tells: keys and their values, with = between, apart by spaces.
func items(s string) []keydiff.Item {
	var l []keydiff.Item
	for _, f := range strings.Fields(s) {
		k, v, _ := strings.Cut(f, "=")
		l = append(l, keydiff.Item{Key: k, Value: v})
	}
	return l
}

// side returns the Side that s tells: - for none, else = and the value; anything else is the value of one that is not there.
func side(s string) keydiff.Side {
	v, there := strings.CutPrefix(s, "=")
	return keydiff.Side{Value: strings.TrimPrefix(v, "-"), There: there}
}

// changes returns the changes that s tells: key, old Side and new Side, with : between, apart by spaces.
func changes(s string) []keydiff.Change {
	var l []keydiff.Change
	for _, f := range strings.Fields(s) {
		p := strings.Split(f, ":")
		l = append(l, keydiff.Change{Key: p[0], Old: side(p[1]), New: side(p[2])})
	}
	return l
}

// conflicts returns the conflicts that s tells: key, and the Sides of base, ours and theirs.
func conflicts(s string) []keydiff.Conflict {
	var l []keydiff.Conflict
	for _, f := range strings.Fields(s) {
		p := strings.Split(f, ":")
		l = append(l, keydiff.Conflict{Key: p[0], Base: side(p[1]), Ours: side(p[2]), Theirs: side(p[3])})
	}
	return l
}

// P20.1

// bad are lists that are not keyed ones.
var bad = []string{"a=1 a=1", "a=1 a=2", "b=1 a=1", "a=1 b=2 a=1", "a=1 c=1 b=1", "b=1 a=1 c=1", "a= =", "aa= a=", "a=1 b=1 b=1", "a= Z=", "9= 10=", "é= z=", "\xff= é="}

func TestRight(t *testing.T) {
	for _, s := range append(slices.Clone(bad), "", "a=1", "=1", "a=1 b=1", "a=2 b=1", "= a=", "a= aa=", "a= a\x00=", "10= 9=", "Z= a=", "a= b= c= d=", "z= é= \xff=") {
		if want := !slices.Contains(bad, s); keydiff.Right(items(s)) != want {
			t.Errorf("Right(%q): %v", s, !want)
		}
	}
}

func TestDiff(t *testing.T) {
	for _, x := range []struct{ a, b, want string }{
		{"", "", ""},
		{"a=1", "a=1", ""},
		{"a=1", "a=2", "a:=1:=2"},
		{"a=1", "", "a:=1:-"},
		{"", "a=1", "a:-:=1"},
		// a value that is empty is another thing than none
		{"", "a=", "a:-:="},
		{"a=", "", "a:=:-"},
		{"a=", "a=", ""},
		{"a=", "a=1", "a:=:=1"},
		{"=1", "=2", ":=1:=2"},
		{"a=1 c=3", "b=2 c=4", "a:=1:- b:-:=2 c:=3:=4"},
		{"a=1 b=2 c=3 d=4", "a=1 b=3 c=3 e=4", "b:=2:=3 d:=4:- e:-:=4"},
		// no order but that of the bytes, from whichever list a key comes
		{"10= a=", "9= Z= \xff=", "10:=:- 9:-:= Z:-:= a:=:- \xff:-:="},
		{"b=1 d=1", "a=1 c=1 e=1", "a:-:=1 b:=1:- c:-:=1 d:=1:- e:-:=1"},
	} {
		l, err := keydiff.Diff(items(x.a), items(x.b))
		if err != api.OK || !slices.Equal(l, changes(x.want)) {
			t.Errorf("Diff(%q, %q): %v, %d, want %q", x.a, x.b, l, err, x.want)
		}
	}
}

func TestDiffOrder(t *testing.T) {
	for _, s := range bad {
		for _, x := range [][2]string{{s, ""}, {"", s}, {s, s}, {"a=1", s}, {s, "a=1 b=1"}} {
			if l, err := keydiff.Diff(items(x[0]), items(x[1])); len(l) != 0 || err != api.ErrOrder {
				t.Errorf("Diff(%q, %q): %v, %d", x[0], x[1], l, err)
			}
		}
	}
}

// P20.2

func TestApply(t *testing.T) {
	for _, x := range []struct{ a, l, want string }{
		{"", "", ""},
		{"a=1", "", "a=1"},
		{"a=1", "a:=1:=2", "a=2"},
		{"a=1", "a:=1:-", ""},
		{"", "a:-:=1", "a=1"},
		{"", "a:-:=", "a="},
		{"a=", "a:=:-", ""},
		{"a=1", "a:=1:=", "a="},
		{"b=2 d=4", "a:-:=1 b:=2:- c:-:=3 d:=4:=5 e:-:=6", "a=1 c=3 d=5 e=6"},
		{"a=1 b=2 c=3", "b:=2:-", "a=1 c=3"},
		{"9=1", "10:-:=2 \xff:-:=3", "10=2 9=1 \xff=3"},
		// changes that no Diff returns
		{"a=1", "a:=1:=1", "a=1"},
		{"a=1", "b:-:-", "a=1"},
		{"", ":-:- a:-:-", ""},
	} {
		l, err := keydiff.Apply(items(x.a), changes(x.l))
		if err != api.OK || !slices.Equal(l, items(x.want)) {
			t.Errorf("Apply(%q, %q): %q, %d, want %q", x.a, x.l, l, err, x.want)
		}
	}
}

func TestApplyErrors(t *testing.T) {
	for _, x := range []struct {
		a, l string
		want api.Errno
	}{
		{"a=1", "b:-:=1 a:=1:=2", api.ErrOrder},
		{"a=1", "a:=1:=2 a:=2:=3", api.ErrOrder},
		{"a=1", "a:=1:=2 a:=1:=2", api.ErrOrder},
		{"", "a:-:- a:-:-", api.ErrOrder},
		{"", "a:-:=1 9:-:=1 10:-:=1", api.ErrOrder},
		{"", "a:-:=1 c:-:=1 b:-:=1", api.ErrOrder},
		{"", "a:-x:-", api.ErrForm},
		{"", "a:-:-x", api.ErrForm},
		{"", "a:x:=1", api.ErrForm},
		{"a=x", "a:x:=1", api.ErrForm},
		{"a=x", "a:=x:y", api.ErrForm},
		{"", "a:-:=1 b:-:=1 c:-:y", api.ErrForm},
		{"a=1", "a:=2:=3", api.ErrStale},
		{"a=1", "a:-:=3", api.ErrStale},
		{"a=", "a:-:=3", api.ErrStale},
		{"a=", "a:-:-", api.ErrStale},
		{"a=1", "a:=:=3", api.ErrStale},
		{"", "a:=:=3", api.ErrStale},
		{"", "a:=:-", api.ErrStale},
		{"a=1", "b:=1:=2", api.ErrStale},
		{"a=1 b=2", "a:=1:=2 b:=1:=2", api.ErrStale},
		{"a=1 c=2", "a:=1:=2 b:=1:=2", api.ErrStale},
		// of several errors the one that the chapter mentions first
		{"", "b:=1:=2 a:x:-", api.ErrOrder},
		{"", "b:-:=2 b:=2:y", api.ErrOrder},
		{"a=1", "a:=2:x", api.ErrForm},
		{"a=1", "a:=2:=3 b:-:x", api.ErrForm},
		{"a=1", "a:-:=3 b:x:-", api.ErrForm},
	} {
		if l, err := keydiff.Apply(items(x.a), changes(x.l)); len(l) != 0 || err != x.want {
			t.Errorf("Apply(%q, %q): %q, %d, want %d", x.a, x.l, l, err, x.want)
		}
	}
	for _, s := range bad {
		for _, l := range []string{"", "q:-:=1", "q:=1:=2", "q:x:y", "b:=1:-"} {
			if made, err := keydiff.Apply(items(s), changes(l)); len(made) != 0 || err != api.ErrOrder {
				t.Errorf("Apply(%q, %q): %q, %d", s, l, made, err)
			}
		}
	}
}

// P20.3

func TestMerge(t *testing.T) {
	for _, x := range []struct{ base, ours, theirs, want, conflicts string }{
		{"a=1", "a=2", "a=1 b=3", "a=2 b=3", ""},
		{"", "", "", "", ""},
		{"a=1", "a=1", "a=1", "a=1", ""},
		// one side alone
		{"a=1", "a=2", "a=1", "a=2", ""},
		{"a=1", "a=1", "a=2", "a=2", ""},
		{"a=1", "", "a=1", "", ""},
		{"a=1", "a=1", "", "", ""},
		{"", "a=1", "", "a=1", ""},
		{"", "", "a=1", "a=1", ""},
		{"a=1", "a=", "a=1", "a=", ""},
		{"a=1", "a=1", "a=", "a=", ""},
		// both sides alike
		{"a=1", "a=2", "a=2", "a=2", ""},
		{"a=1", "", "", "", ""},
		{"", "a=1", "a=1", "a=1", ""},
		// otherwise
		{"a=1", "a=2", "a=3", "", "a:=1:=2:=3"},
		{"a=1", "", "a=3", "", "a:=1:-:=3"},
		{"a=1", "a=2", "", "", "a:=1:=2:-"},
		{"", "a=2", "a=3", "", "a:-:=2:=3"},
		{"a=1", "a=", "", "", "a:=1:=:-"},
		{"", "a=", "a=1", "", "a:-:=:=1"},
		{"a=", "", "a=1", "", "a:=:-:=1"},
		// with conflicts there is no list
		{"a=1 b=1 c=1", "a=2 b=2 c=1", "a=1 b=3 c=3", "", "b:=1:=2:=3"},
		{"b=1 \xff=1", "10=1 9=2 b=2 \xff=2", "10=2 9=2", "", "10:-:=1:=2 b:=1:=2:- \xff:=1:=2:-"},
		{"a=1 c=1 e=1", "b=1 c=1 e=1", "a=1 c=2 d=1", "b=1 c=2 d=1", ""},
		{"=1", "", "=1 a=1", "a=1", ""},
	} {
		l, c, err := keydiff.Merge(items(x.base), items(x.ours), items(x.theirs))
		if err != api.OK || !slices.Equal(l, items(x.want)) || !slices.Equal(c, conflicts(x.conflicts)) {
			t.Errorf("Merge(%q, %q, %q): %q, %v, %d, want %q, %q", x.base, x.ours, x.theirs, l, c, err, x.want, x.conflicts)
		}
	}
}

func TestMergeOrder(t *testing.T) {
	for _, s := range bad {
		for _, x := range [][3]string{{s, "", ""}, {"", s, ""}, {"", "", s}, {s, s, s}, {"a=1", s, "a=2"}, {"a=1", "a=2", s}, {s, "a=2", "a=3"}} {
			l, c, err := keydiff.Merge(items(x[0]), items(x[1]), items(x[2]))
			if len(l) != 0 || len(c) != 0 || err != api.ErrOrder {
				t.Errorf("Merge%q: %q, %v, %d", x, l, c, err)
			}
		}
	}
}

// P20.1 to P20.3

func TestRandom(t *testing.T) {
	r := rand.New(rand.NewSource(20))
	applied, merged := map[api.Errno]int{}, map[bool]int{}
	for range 20000 {
		base := random(r, 4)
		ours, theirs := edited(r, base, r.Intn(5)), edited(r, base, r.Intn(5))
		if r.Intn(10) == 0 {
			base = spoiled(r, base)
		}
		checkDiff(t, base, ours)
		l := randomChanges(r, base)
		want, wantErr := apply(base, l)
		applied[wantErr]++
		if made, err := keydiff.Apply(base, l); err != wantErr || !slices.Equal(made, want) {
			t.Fatalf("Apply(%q, %v): %q, %d, want %q, %d", base, l, made, err, want, wantErr)
		}
		if right(base) {
			checkMerge(t, base, ours, theirs)
			_, c := merge(base, ours, theirs)
			merged[len(c) == 0]++
		}
	}
	for _, e := range []api.Errno{api.OK, api.ErrOrder, api.ErrForm, api.ErrStale} {
		if applied[e] < 500 {
			t.Errorf("Apply: %d only %d times", e, applied[e])
		}
	}
	if merged[true] < 2000 || merged[false] < 2000 {
		t.Error(merged)
	}
}

// checkDiff holds Right of a and Diff of both against the model, and what Apply makes of that against b.
func checkDiff(t *testing.T, a, b []keydiff.Item) {
	t.Helper()
	if keydiff.Right(a) != right(a) {
		t.Fatalf("Right(%q)", a)
	}
	l, err := keydiff.Diff(a, b)
	if !right(a) {
		if len(l) != 0 || err != api.ErrOrder {
			t.Fatalf("Diff(%q, %q): %v, %d", a, b, l, err)
		}
		return
	}
	if err != api.OK || !slices.Equal(l, diff(a, b)) {
		t.Fatalf("Diff(%q, %q): %v, %d", a, b, l, err)
	}
	if made, err := keydiff.Apply(a, l); err != api.OK || !slices.Equal(made, b) {
		t.Fatalf("Apply(%q, %v): %q, %d", a, l, made, err)
	}
}

// checkMerge holds Merge against the model.
func checkMerge(t *testing.T, base, ours, theirs []keydiff.Item) {
	t.Helper()
	want, wantConflicts := merge(base, ours, theirs)
	l, c, err := keydiff.Merge(base, ours, theirs)
	if err != api.OK || !slices.Equal(l, want) || !slices.Equal(c, wantConflicts) {
		t.Fatalf("Merge(%q, %q, %q): %q, %v, %d", base, ours, theirs, l, c, err)
	}
}

// Keyed lists have no limit of items.
func TestMany(t *testing.T) {
	const n = 20 * api.MaxItems
	var base, ours, theirs []keydiff.Item
	for i := range n {
		x := keydiff.Item{Key: fmt.Sprintf("%08d", i), Value: "v"}
		base = append(base, x)
		if i%2 == 0 {
			ours = append(ours, x)
		}
		if i%3 != 0 {
			theirs = append(theirs, x)
		}
	}
	l, c, err := keydiff.Merge(base, ours, theirs)
	if err != api.OK || len(c) != 0 || len(l) != n/3 || l[0] != base[2] || l[1] != base[4] {
		t.Errorf("Merge: %d items, %d conflicts, %d", len(l), len(c), err)
	}
	d, err := keydiff.Diff(base, ours)
	if err != api.OK || len(d) != n/2 || d[1].Key != base[3].Key {
		t.Errorf("Diff: %d changes, %d", len(d), err)
	}
	if l, err = keydiff.Apply(base, d); err != api.OK || !slices.Equal(l, ours) {
		t.Errorf("Apply: %d items, %d", len(l), err)
	}
}

// Arguments stay as they are, their spare capacity too, and nothing of a result is shared.
func TestOwnMemory(t *testing.T) {
	spare := keydiff.Item{Key: "spare", Value: "spare"}
	fresh := func(s string) []keydiff.Item {
		l := append(append(make([]keydiff.Item, 0, 16), items(s)...), spare, spare)
		return l[:len(l)-2]
	}
	kept := func(l []keydiff.Item, s string) bool {
		return slices.Equal(l, items(s)) && slices.Equal(l[len(l):len(l)+2], []keydiff.Item{spare, spare})
	}
	base, ours, theirs := fresh("a=1 b=2"), fresh("a=2 b=2 d=4"), fresh("a=1 b=2 c=3")
	d := append(changes("a:=1:=2 d:-:=4"), keydiff.Change{Key: "spare"})
	d = d[:2]
	for range 2 {
		for _, x := range []struct {
			l, r []keydiff.Item
			want string
		}{{base, base, "a=1 b=2"}, {ours, base, "a=2 b=2 d=4"}, {base, ours, "a=2 b=2 d=4"}, {ours, theirs, "a=2 b=2 c=3 d=4"}} {
			l, c, err := keydiff.Merge(base, x.l, x.r)
			if err != api.OK || len(c) != 0 || !slices.Equal(l, items(x.want)) {
				t.Fatalf("Merge: %q, %v, %d", l, c, err)
			}
			overwrite(l, spare)
		}
		for _, changed := range [][]keydiff.Change{d, nil} {
			l, err := keydiff.Apply(base, changed)
			if err != api.OK || len(l) != 2+len(changed)/2 {
				t.Fatalf("Apply: %q, %d", l, err)
			}
			overwrite(l, keydiff.Item{})
		}
		l, err := keydiff.Diff(base, ours)
		if err != api.OK || !slices.Equal(l, d) {
			t.Fatalf("Diff: %v, %d", l, err)
		}
		overwrite(l, keydiff.Change{})
		if !kept(base, "a=1 b=2") || !kept(ours, "a=2 b=2 d=4") || !kept(theirs, "a=1 b=2 c=3") || !slices.Equal(d, changes("a:=1:=2 d:-:=4")) || d[:3][2].Key != "spare" {
			t.Fatal("an argument has changed")
		}
	}
}

// overwrite writes x over all of l, its spare capacity too.
func overwrite[T any](l []T, x T) {
	l = l[:cap(l)]
	for i := range l {
		l[i] = x
	}
}
