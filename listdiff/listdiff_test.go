package listdiff_test

import (
	"fmt"
	"math"
	"math/rand"
	"slices"
	"strings"
	"testing"

	"stemma/api"
	"stemma/listdiff"
)

// letters returns each letter of s as an item.
func letters(s string) []string {
	if s == "" {
		return nil
	}
	return strings.Split(s, "")
}

// edits returns the edits that s tells: =, - or + and an item of a letter.
func edits(s string) []listdiff.Edit {
	var l []listdiff.Edit
	for i := 0; i < len(s); i += 2 {
		l = append(l, listdiff.Edit{Op: strings.IndexByte("=-+", s[i]), Item: s[i+1 : i+2]})
	}
	return l
}

// P19.1

func TestKinds(t *testing.T) {
	if listdiff.Keep != 0 || listdiff.Drop != 1 || listdiff.Add != 2 {
		t.Error(listdiff.Keep, listdiff.Drop, listdiff.Add)
	}
}

func TestDiff(t *testing.T) {
	for _, x := range []struct{ a, b, want string }{
		{"abc", "bcd", "-a=b=c+d"},
		{"", "", ""},
		{"a", "", "-a"},
		{"", "a", "+a"},
		{"ab", "", "-a-b"},
		{"", "ab", "+a+b"},
		{"a", "a", "=a"},
		{"abc", "abc", "=a=b=c"},
		{"a", "b", "-a+b"},
		{"ab", "cd", "-a-b+c+d"},
		{"ab", "ba", "-a=b+a"},
		{"x", "xx", "=x+x"},
		{"xx", "x", "=x-x"},
		{"px", "qxx", "-p+q=x+x"},
		{"abc", "xaybzc", "+x=a+y=b+z=c"},
		{"xaybzc", "abc", "-x=a-y=b-z=c"},
		{"abcabba", "cbabac", "-a-b=c-a=b+a=b=a+c"},
		{"cbabac", "abcabba", "-c+a=b+c=a=b+b=a-c"},
		{"abc", "axc", "=a-b+x=c"},
		{"ab", "xab", "+x=a=b"},
		{"aab", "ab", "=a-a=b"},
		{"aba", "a", "=a-b-a"},
		{"ba", "aba", "+a=b=a"},
	} {
		l, err := listdiff.Diff(letters(x.a), letters(x.b))
		if err != api.OK || !slices.Equal(l, edits(x.want)) {
			t.Errorf("Diff(%s, %s): %v, %d, want %s", x.a, x.b, l, err, x.want)
		}
	}
}

// Items are compared whole, whatever their bytes are.
func TestDiffItems(t *testing.T) {
	a := []string{"", "a\x00", "\xff", strings.Repeat("x", 5000) + "a"}
	b := []string{"a", "", "a\x00", "\xfe", strings.Repeat("x", 5000) + "b"}
	l, err := listdiff.Diff(a, b)
	want := []listdiff.Edit{{2, "a"}, {0, ""}, {0, "a\x00"}, {1, "\xff"}, {1, a[3]}, {2, "\xfe"}, {2, b[4]}}
	if err != api.OK || !slices.Equal(l, want) {
		t.Errorf("%.200v, %d", l, err)
	}
}

// numbers returns the numbers from first on, n of them, as items.
func numbers(first, n int) []string {
	var l []string
	for i := range n {
		l = append(l, fmt.Sprint(first+i))
	}
	return l
}

func TestDiffLong(t *testing.T) {
	most := numbers(0, api.MaxItems)
	more := numbers(0, api.MaxItems+1)
	for what, x := range map[string][2][]string{
		"a":               {more, nil},
		"b":               {nil, more},
		"both":            {more, more},
		"a, b as long":    {more, most},
		"b, a as long":    {most, more},
		"much longer":     {numbers(0, 3*api.MaxItems), most},
		"a, equal items":  {slices.Repeat([]string{"a"}, api.MaxItems+1), nil},
		"b, longer still": {{"a"}, numbers(0, 1<<17)},
	} {
		if l, err := listdiff.Diff(x[0], x[1]); len(l) != 0 || err != api.ErrLong {
			t.Errorf("Diff, %s: %d edits, %d", what, len(l), err)
		}
		if l, err := listdiff.Match(x[0], x[1]); len(l) != 0 || err != api.ErrLong {
			t.Errorf("Match, %s: %d, %d", what, len(l), err)
		}
	}
	for what, x := range map[string]struct {
		a, b               []string
		kept, dropped, add int
	}{
		"the same":  {most, most, api.MaxItems, 0, 0},
		"a alone":   {most, nil, 0, api.MaxItems, 0},
		"b alone":   {nil, most, 0, 0, api.MaxItems},
		"shifted":   {most, numbers(1, api.MaxItems), api.MaxItems - 1, 1, 1},
		"half":      {most, numbers(api.MaxItems/2, api.MaxItems), api.MaxItems / 2, api.MaxItems / 2, api.MaxItems / 2},
		"no common": {most, numbers(api.MaxItems, api.MaxItems), 0, api.MaxItems, api.MaxItems},
	} {
		l, err := listdiff.Diff(x.a, x.b)
		n := map[int]int{}
		for _, e := range l {
			n[e.Op]++
		}
		if err != api.OK || n[listdiff.Keep] != x.kept || n[listdiff.Drop] != x.dropped || n[listdiff.Add] != x.add || len(l) != x.kept+x.dropped+x.add {
			t.Errorf("%s: %d, %d kept, %d dropped, %d added", what, err, n[listdiff.Keep], n[listdiff.Drop], n[listdiff.Add])
		}
		if made, err := listdiff.Apply(x.a, l); err != api.OK || !slices.Equal(made, x.b) {
			t.Errorf("%s: Apply: %d", what, err)
		}
	}
}

// check holds all that is promised of a pair of lists against the model.
func check(t *testing.T, a, b []string) {
	t.Helper()
	m := modelOf(a, b)
	want, match := m.edits()
	l, err := listdiff.Diff(a, b)
	if err != api.OK || !slices.Equal(l, want) {
		t.Fatalf("Diff(%q, %q): %v, %d, want %v", a, b, l, err, want)
	}
	if x, err := listdiff.Match(a, b); err != api.OK || !slices.Equal(x, match) {
		t.Fatalf("Match(%q, %q): %v, %d, want %v", a, b, x, err, match)
	}
	if x, err := listdiff.Apply(a, l); err != api.OK || !slices.Equal(x, b) {
		t.Fatalf("Apply(%q, %v): %q, %d", a, l, x, err)
	}
	kept := len(slices.DeleteFunc(l, func(e listdiff.Edit) bool { return e.Op != listdiff.Keep }))
	if kept != m.C(0, 0) || len(a) <= 7 && kept != longest(a, b) {
		t.Fatalf("%q, %q: %d are kept", a, b, kept)
	}
	if x := listdiff.Shifts(a, b); !slices.Equal(x, shifts(a, b)) {
		t.Fatalf("Shifts(%q, %q): %v", a, b, x)
	}
}

// P19.1 to P19.3

// Each pair of lists of up to five items of three kinds.
func TestAll(t *testing.T) {
	all := [][]string{nil}
	for i := 0; len(all[i]) < 5; i++ {
		for _, s := range letters("abc") {
			all = append(all, append(slices.Clone(all[i]), s))
		}
	}
	for _, a := range all {
		for _, b := range all {
			if len(a)+len(b) <= 8 {
				check(t, a, b)
			}
		}
	}
}

func TestRandom(t *testing.T) {
	r := rand.New(rand.NewSource(19))
	for range 2000 {
		check(t, random(r, 10, 1+r.Intn(8)), random(r, 10, 1+r.Intn(8)))
	}
	for range 300 {
		a := numbers(0, r.Intn(60))
		check(t, a, changed(r, a, 8))
		a = random(r, 60, 8)
		check(t, a, changed(r, a, 8))
	}
}

// P19.2

func TestApply(t *testing.T) {
	for _, x := range []struct{ a, l, want string }{
		{"abc", "-a=b=c+d", "bcd"},
		{"", "", ""},
		{"", "+a+a", "aa"},
		{"ab", "-a-b", ""},
		{"ab", "=a+x=b+y", "axby"},
		// edits that no Diff returns
		{"a", "+b-a", "b"},
		{"a", "-a+a", "a"},
		{"aa", "=a-a+a", "aa"},
	} {
		if s, err := listdiff.Apply(letters(x.a), edits(x.l)); err != api.OK || !slices.Equal(s, letters(x.want)) {
			t.Errorf("Apply(%s, %s): %q, %d", x.a, x.l, s, err)
		}
	}
}

func TestApplyErrors(t *testing.T) {
	for _, x := range []struct {
		a, l string
		want api.Errno
	}{
		{"", "=a", api.ErrStale},
		{"", "-a", api.ErrStale},
		{"a", "=b", api.ErrStale},
		{"a", "-b", api.ErrStale},
		{"a", "=a=a", api.ErrStale},
		{"a", "=a-a", api.ErrStale},
		{"a", "-a=a", api.ErrStale},
		{"ab", "=b=a", api.ErrStale},
		{"ab", "=a+b-a", api.ErrStale},
		{"ab", "+a=b", api.ErrStale},
		{"a", "", api.ErrTail},
		{"ab", "=a", api.ErrTail},
		{"ab", "-a", api.ErrTail},
		{"ab", "+a+b", api.ErrTail},
		{"abc", "=a-b+c", api.ErrTail},
		// the first error
		{"ab", "=a-c", api.ErrStale},
		{"abc", "=a=c", api.ErrStale},
		{"a", "?a", api.ErrKind},
		{"", "?a", api.ErrKind},
		{"a", "=a?a", api.ErrKind},
		{"ab", "=a?b", api.ErrKind},
		{"ab", "?c=b", api.ErrKind},
		{"ab", "=b?c", api.ErrStale},
		{"ab", "?a", api.ErrKind},
	} {
		if s, err := listdiff.Apply(letters(x.a), edits(x.l)); len(s) != 0 || err != x.want {
			t.Errorf("Apply(%s, %s): %q, %d, want %d", x.a, x.l, s, err, x.want)
		}
	}
	if _, err := listdiff.Apply([]string{""}, []listdiff.Edit{{listdiff.Keep, "\x00"}}); err != api.ErrStale {
		t.Error(err)
	}
}

func TestApplyKinds(t *testing.T) {
	for _, op := range []int{3, 4, -1, -2, 256, 1 << 32, math.MaxInt, math.MinInt} {
		for _, l := range [][]listdiff.Edit{{{op, "a"}}, {{listdiff.Add, "x"}, {op, "a"}}, {{op, ""}, {listdiff.Keep, "a"}}} {
			if s, err := listdiff.Apply([]string{"a"}, l); len(s) != 0 || err != api.ErrKind {
				t.Errorf("Apply(a, %v): %q, %d", l, s, err)
			}
		}
	}
}

// Apply has no limit of its own.
func TestApplyLong(t *testing.T) {
	a := numbers(0, 3*api.MaxItems)
	var l []listdiff.Edit
	for _, s := range a {
		l = append(l, listdiff.Edit{Op: listdiff.Keep, Item: s}, listdiff.Edit{Op: listdiff.Add, Item: s + "'"})
	}
	if s, err := listdiff.Apply(a, l); err != api.OK || len(s) != 2*len(a) || s[2] != "1" || s[3] != "1'" {
		t.Errorf("%d items, %d", len(s), err)
	}
}

// P19.3

func TestMatch(t *testing.T) {
	for _, x := range []struct {
		a, b string
		want []int
	}{
		{"abc", "bcd", []int{-1, 0, 1}},
		{"", "", nil},
		{"", "ab", nil},
		{"ab", "", []int{-1, -1}},
		{"ab", "ba", []int{-1, 0}},
		{"abc", "xaybzc", []int{1, 3, 5}},
		{"aa", "baba", []int{1, 3}},
		{"xx", "x", []int{0, -1}},
		{"px", "qxx", []int{-1, 1}},
	} {
		if l, err := listdiff.Match(letters(x.a), letters(x.b)); err != api.OK || !slices.Equal(l, x.want) {
			t.Errorf("Match(%s, %s): %v, %d, want %v", x.a, x.b, l, err, x.want)
		}
	}
}

func TestShifts(t *testing.T) {
	for _, x := range []struct {
		a, b string
		want []listdiff.Shift
	}{
		{"abc", "bcd", []listdiff.Shift{{"b", 1, 0}, {"c", 2, 1}}},
		{"", "", nil},
		{"abc", "", nil},
		{"", "abc", nil},
		{"abc", "abc", nil},
		{"abc", "cba", []listdiff.Shift{{"c", 2, 0}, {"a", 0, 2}}},
		{"ab", "xab", []listdiff.Shift{{"a", 0, 1}, {"b", 1, 2}}},
		{"aab", "ab", []listdiff.Shift{{"b", 2, 1}}},
		{"ab", "aab", []listdiff.Shift{{"b", 1, 2}}},
		{"ab", "bbxa", []listdiff.Shift{{"a", 0, 3}}},
		{"xaxb", "bxa", []listdiff.Shift{{"b", 3, 0}, {"a", 1, 2}}},
		{"aab", "baa", []listdiff.Shift{{"b", 2, 0}}},
		{"ab", "ac", nil},
	} {
		if l := listdiff.Shifts(letters(x.a), letters(x.b)); !slices.Equal(l, x.want) {
			t.Errorf("Shifts(%s, %s): %v, want %v", x.a, x.b, l, x.want)
		}
	}
}

// Shifts has no limit of its own.
func TestShiftsLong(t *testing.T) {
	a := numbers(0, 3*api.MaxItems)
	b := slices.Clone(a)
	slices.Reverse(b)
	l := listdiff.Shifts(a, b)
	if len(l) != len(a) || l[0] != (listdiff.Shift{Item: a[len(a)-1], From: len(a) - 1, To: 0}) {
		t.Errorf("%d", len(l))
	}
}

// Arguments stay as they are, their spare capacity too, and nothing of a result is shared.
func TestOwnMemory(t *testing.T) {
	fresh := func(s string) []string { return append(append(make([]string, 0, 16), letters(s)...), "spare")[:len(s)] }
	a, b := fresh("abcabba"), fresh("cbabac")
	l := append(edits("-a-b=c-a=b+a=b=a+c"), listdiff.Edit{Op: 7, Item: "spare"})
	l = l[:len(l)-1]
	for range 2 {
		x, err := listdiff.Diff(a, b)
		y, err2 := listdiff.Match(a, b)
		z, err3 := listdiff.Apply(a, l)
		w := listdiff.Shifts(a, b)
		if !slices.Equal(x, l) || err != api.OK || !slices.Equal(y, []int{-1, -1, 0, -1, 1, 3, 4}) || err2 != api.OK || !slices.Equal(z, b) || err3 != api.OK || len(w) != 0 {
			t.Fatalf("%v %v %q %v", x, y, z, w)
		}
		z = z[:cap(z)]
		for i := range z {
			z[i] = "changed"
		}
		x = x[:cap(x)]
		for i := range x {
			x[i] = listdiff.Edit{Op: 9, Item: "changed"}
		}
		if !slices.Equal(a, letters("abcabba")) || !slices.Equal(b, letters("cbabac")) || a[:8][7] != "spare" || b[:7][6] != "spare" || l[:len(l)+1][len(l)].Item != "spare" {
			t.Fatal("an argument has changed")
		}
	}
}
