package three_test

import (
	"fmt"
	"math/rand"
	"slices"
	"strings"
	"testing"

	"stemma/api"
	"stemma/three"
)

// letters returns each letter of s as an item.
func letters(s string) []string {
	if s == "" {
		return nil
	}
	return strings.Split(s, "")
}

// P21.1

func TestLists(t *testing.T) {
	for _, x := range []struct{ base, ours, theirs, want, crossed string }{
		{"ab", "xab", "aby", "xaby", ""},
		{"ab", "bac", "ab", "bac", ""},
		{"ab", "ba", "abc", "", "ba"},
		{"ab", "xab", "ay", "xay", ""},
		{"", "", "", "", ""},
		{"ab", "ab", "ab", "ab", ""},
		// one side alone, or both alike
		{"ab", "ba", "ab", "ba", ""},
		{"ab", "ab", "ba", "ba", ""},
		{"ab", "", "ab", "", ""},
		{"ab", "ab", "", "", ""},
		{"", "ab", "", "ab", ""},
		{"", "", "ab", "ab", ""},
		{"ab", "ba", "ba", "ba", ""},
		{"ab", "", "", "", ""},
		{"", "ab", "ab", "ab", ""},
		{"abc", "cba", "cba", "cba", ""},
		// what one side has dropped is not there, what base does not have stays
		{"abc", "ab", "bc", "b", ""},
		{"abc", "b", "ac", "", ""},
		{"abc", "bx", "acy", "xy", ""},
		{"abcd", "acd", "abd", "ad", ""},
		{"a", "", "ax", "x", ""},
		{"a", "xa", "", "x", ""},
		{"ab", "ba", "", "", ""},
		{"ab", "ba", "a", "a", ""},
		{"", "ab", "cd", "abcd", ""},
		{"", "ax", "bx", "abx", ""},
		{"", "xa", "xb", "xab", ""},
		{"", "axc", "bxd", "abxcd", ""},
		// the end of one of the two
		{"", "a", "bcd", "abcd", ""},
		{"", "abc", "d", "abcd", ""},
		{"", "ad", "d", "ad", ""},
		{"", "d", "abd", "abd", ""},
		{"", "d", "da", "da", ""},
		// ours goes first, as far as it can
		{"m", "xmy", "zmw", "xzmyw", ""},
		{"m", "abm", "cdm", "abcdm", ""},
		{"mn", "man", "mbn", "mabn", ""},
		// other orders
		{"", "ab", "ba", "", "ab"},
		{"", "ba", "ab", "", "ba"},
		{"ab", "ba", "abx", "", "ba"},
		{"abc", "acb", "bacx", "", "ab"},
		{"abc", "cab", "abcx", "", "ca"},
		{"abcd", "acbd", "abcdx", "", "cb"},
		{"", "xaby", "zbaw", "", "ab"},
		{"ab", "xba", "yab", "", "ba"},
		{"abc", "bca", "cab", "", "bc"},
		{"abd", "bcad", "dab", "", "bd"},
		{"", "pqa", "apq", "", "pa"},
		// that what is dropped was in another order does not matter
		{"abc", "cba", "ab", "", "ba"},
		{"abc", "cba", "bx", "bx", ""},
		{"abc", "cab", "abx", "abx", ""},
		{"abc", "ab", "cab", "ab", ""},
	} {
		l, c, err := three.Lists(letters(x.base), letters(x.ours), letters(x.theirs))
		if err != api.OK || !slices.Equal(l, letters(x.want)) || !slices.Equal(c, letters(x.crossed)) {
			t.Errorf("Lists(%s, %s, %s): %q, %q, %d, want %s, %s", x.base, x.ours, x.theirs, l, c, err, x.want, x.crossed)
		}
	}
}

// Items are compared whole, whatever their bytes are.
func TestListsItems(t *testing.T) {
	x := strings.Repeat("x", 5000)
	base := []string{"a", "", x}
	ours := []string{"a\x00", "a", x, "\xff\xfe"}
	theirs := []string{"", "a", x, x + "y", "\xff"}
	l, c, err := three.Lists(base, ours, theirs)
	if err != api.OK || len(c) != 0 || !slices.Equal(l, []string{"a\x00", "a", x, "\xff\xfe", x + "y", "\xff"}) {
		t.Errorf("%.20q, %q, %d", l, c, err)
	}
	if l, c, err = three.Lists(nil, []string{"", "a"}, []string{"a", ""}); err != api.OK || len(l) != 0 || !slices.Equal(c, []string{"", "a"}) {
		t.Errorf("%q, %q, %d", l, c, err)
	}
}

func TestListsErrors(t *testing.T) {
	most, more := numbers(0, api.MaxItems), numbers(0, api.MaxItems+1)
	twice := append(numbers(0, api.MaxItems-1), "0")
	long := slices.Repeat([]string{"a"}, api.MaxItems+1)
	for what, x := range map[string]struct {
		base, ours, theirs []string
		want               api.Errno
	}{
		"base is long":             {more, nil, nil, api.ErrLong},
		"ours is long":             {nil, more, nil, api.ErrLong},
		"theirs is long":           {nil, nil, more, api.ErrLong},
		"all are long":             {more, more, more, api.ErrLong},
		"much longer":              {most, numbers(0, 1<<17), most, api.ErrLong},
		"ours and theirs are long": {most, more, more, api.ErrLong},
		"base has one twice":       {letters("aba"), nil, nil, api.ErrExists},
		"ours has one twice":       {letters("ab"), letters("abb"), letters("ab"), api.ErrExists},
		"theirs has one twice":     {letters("ab"), letters("ab"), letters("aab"), api.ErrExists},
		"all have one twice":       {letters("aa"), letters("aa"), letters("aa"), api.ErrExists},
		"both have one twice":      {nil, letters("aa"), letters("aa"), api.ErrExists},
		"a dropped one twice":      {letters("ab"), letters("xaa"), letters("y"), api.ErrExists},
		"the empty one twice":      {nil, []string{"", "a", ""}, nil, api.ErrExists},
		"far apart":                {nil, most, twice, api.ErrExists},
		"in other lists, too":      {letters("abc"), letters("abcd"), letters("acba"), api.ErrExists},
		// of several errors the one that the chapter mentions first
		"ours twice, theirs long": {nil, letters("aa"), more, api.ErrLong},
		"base twice, ours long":   {letters("aa"), more, nil, api.ErrLong},
		"one long and twice":      {nil, nil, long, api.ErrLong},
		"long and crossed":        {nil, append([]string{"b", "a"}, more...), letters("ab"), api.ErrLong},
	} {
		l, c, err := three.Lists(x.base, x.ours, x.theirs)
		if len(l) != 0 || len(c) != 0 || err != x.want {
			t.Errorf("%s: %d items, %q, %d, want %d", what, len(l), c, err, x.want)
		}
	}
}

func TestListsLong(t *testing.T) {
	most, next := numbers(0, api.MaxItems), numbers(api.MaxItems, api.MaxItems)
	back := slices.Clone(most)
	slices.Reverse(back)
	for what, x := range map[string]struct{ base, ours, theirs, want, crossed []string }{
		"the same":           {most, most, most, most, nil},
		"ours alone":         {most, back, most, back, nil},
		"theirs alone":       {most, most, back, back, nil},
		"added on each side": {nil, most, next, slices.Concat(most, next), nil},
		"half":               {most, most[:api.MaxItems/2], most[100:], most[100 : api.MaxItems/2], nil},
		"nothing is left":    {slices.Concat(most[:100], next[100:]), next[100:], most[:100], nil, nil},
		"ours crosses":       {nil, most, back, nil, []string{"0", "4095"}},
		"late":               {nil, most, append(slices.Clone(most[:4094]), "4095", "4094"), nil, []string{"4094", "4095"}},
	} {
		l, c, err := three.Lists(x.base, x.ours, x.theirs)
		if err != api.OK || !slices.Equal(l, x.want) || !slices.Equal(c, x.crossed) {
			t.Errorf("%s: %d items, %q, %d", what, len(l), c, err)
		}
	}
}

// P21.1, P21.2 and P21.4

// checkLists holds Lists against the model, and against what is promised of any answer.
func checkLists(t *testing.T, base, ours, theirs []string) {
	t.Helper()
	want, wantCrossed, wantErr := lists(base, ours, theirs)
	l, c, err := three.Lists(base, ours, theirs)
	if err != wantErr || !slices.Equal(l, want) || !slices.Equal(c, wantCrossed) {
		t.Fatalf("Lists(%q, %q, %q): %q, %q, %d, want %q, %q, %d", base, ours, theirs, l, c, err, want, wantCrossed, wantErr)
	}
	if err != api.OK {
		return
	}
	// A side that is base has no say: what is returned is the other one, in whatever order that has its items.
	if len(c) == 0 && (!ordered(l, ours) && !slices.Equal(ours, base) || !ordered(l, theirs) && !slices.Equal(theirs, base)) {
		t.Fatalf("Lists(%q, %q, %q): %q has another order", base, ours, theirs, l)
	}
	if len(c) != 0 && (len(c) != 2 || len(l) != 0 || !crosses(c, ours, theirs)) {
		t.Fatalf("Lists(%q, %q, %q): %q", base, ours, theirs, c)
	}
}

// crosses: are the two items in both sides, in different orders?
func crosses(c, ours, theirs []string) bool {
	o1, o2, t1, t2 := slices.Index(ours, c[0]), slices.Index(ours, c[1]), slices.Index(theirs, c[0]), slices.Index(theirs, c[1])
	return o1 >= 0 && t2 >= 0 && o1 < o2 && t2 < t1
}

// orders returns all lists of up to three of the items abcd, none twice.
func orders() [][]string {
	all := [][]string{nil}
	for i := 0; i < len(all); i++ {
		for _, s := range letters("abcd") {
			if len(all[i]) < 3 && !slices.Contains(all[i], s) {
				all = append(all, append(slices.Clone(all[i]), s))
			}
		}
	}
	return all
}

func TestListsAll(t *testing.T) {
	all := orders()
	for _, base := range all {
		for _, ours := range all {
			for _, theirs := range all {
				checkLists(t, base, ours, theirs)
			}
			sides(t, base, ours)
		}
	}
}

// sides checks that a side that is base yields the other one, and two sides that are equal yield that.
func sides(t *testing.T, base, side []string) {
	t.Helper()
	for _, x := range [][3][]string{{base, base, side}, {base, side, base}, {base, side, side}} {
		if slices.Equal(once(base), base) && slices.Equal(once(side), side) {
			if l, c, err := three.Lists(x[0], x[1], x[2]); err != api.OK || len(c) != 0 || !slices.Equal(l, side) {
				t.Fatalf("Lists%q: %q, %q, %d", x, l, c, err)
			}
		}
		if l, h, err := three.Lines(x[0], x[1], x[2]); err != api.OK || len(h) != 0 || !slices.Equal(l, side) {
			t.Fatalf("Lines%q: %q, %q, %d", x, l, h, err)
		}
	}
}

func TestListsRandom(t *testing.T) {
	r := rand.New(rand.NewSource(21))
	seen := map[string]int{}
	for range 20000 {
		base := some(r, 9)
		ours, theirs := some(r, 9), some(r, 9)
		if r.Intn(3) > 0 {
			item := func() string { return []string{"a", "\x00", "", "1", "2", "3"}[r.Intn(6)] }
			ours, theirs = changed(r, base, 3, item), changed(r, base, 3, item)
			if r.Intn(3) > 0 {
				ours, theirs = once(ours), once(theirs)
			}
		}
		checkLists(t, base, ours, theirs)
		sides(t, base, ours)
		l, c, err := lists(base, ours, theirs)
		seen[fmt.Sprint(err, len(l) > 0, len(c))]++
	}
	for _, what := range []string{"0 true 0", "0 false 2", "10 false 0"} {
		if seen[what] < 1000 {
			t.Error(seen)
		}
	}
}

// Arguments stay as they are, their spare capacity too, and nothing of a result is shared.
func TestListsOwnMemory(t *testing.T) {
	base, ours, theirs, other := fresh("abc"), fresh("xac"), fresh("abcy"), fresh("cay")
	for range 2 {
		for _, x := range []struct {
			ours, theirs []string
			want         string
			crossed      string
		}{{base, base, "abc", ""}, {ours, base, "xac", ""}, {base, ours, "xac", ""}, {ours, ours, "xac", ""}, {ours, theirs, "xacy", ""}, {theirs, ours, "xacy", ""}, {ours, other, "", "ac"}} {
			l, c, err := three.Lists(base, x.ours, x.theirs)
			if err != api.OK || !slices.Equal(l, letters(x.want)) || !slices.Equal(c, letters(x.crossed)) {
				t.Fatalf("%q, %q, %d, want %s, %s", l, c, err, x.want, x.crossed)
			}
			overwrite(l, "changed")
			overwrite(c, "changed")
		}
		if !whole(base, "abc") || !whole(ours, "xac") || !whole(theirs, "abcy") || !whole(other, "cay") {
			t.Fatal("an argument has changed")
		}
	}
}

// fresh returns the letters of s, with spare capacity behind them.
func fresh(s string) []string {
	l := append(append(make([]string, 0, 16), letters(s)...), "spare", "spare")
	return l[:len(l)-2]
}

// whole: is l as fresh returned it?
func whole(l []string, s string) bool {
	return slices.Equal(l, letters(s)) && slices.Equal(l[len(l):len(l)+2], []string{"spare", "spare"})
}

// overwrite writes s over all of l, its spare capacity too.
func overwrite(l []string, s string) {
	l = l[:cap(l)]
	for i := range l {
		l[i] = s
	}
}
