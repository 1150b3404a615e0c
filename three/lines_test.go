package three_test

import (
	"math/rand"
	"slices"
	"strings"
	"testing"

	"stemma/api"
	"stemma/three"
)

// hunks returns the hunks that s tells: the letters of base, ours and theirs, with : between, apart by spaces.
func hunks(s string) []three.Hunk {
	var l []three.Hunk
	for _, f := range strings.Fields(s) {
		p := strings.Split(f, ":")
		l = append(l, three.Hunk{Base: letters(p[0]), Ours: letters(p[1]), Theirs: letters(p[2])})
	}
	return l
}

// P21.3

func TestLines(t *testing.T) {
	for _, x := range []struct{ base, ours, theirs, want, hunks string }{
		{"", "", "", "", ""},
		{"abc", "abc", "abc", "abc", ""},
		// one side alone, or both alike
		{"abc", "axc", "abc", "axc", ""},
		{"abc", "abc", "axc", "axc", ""},
		{"abc", "axc", "axc", "axc", ""},
		{"abc", "", "abc", "", ""},
		{"abc", "abc", "", "", ""},
		{"abc", "", "", "", ""},
		{"", "ab", "", "ab", ""},
		{"", "", "ab", "ab", ""},
		{"", "ab", "ab", "ab", ""},
		// each side in pieces of its own
		{"abc", "xbc", "aby", "xby", ""},
		{"abc", "bc", "ab", "b", ""},
		{"abc", "xabc", "abcy", "xabcy", ""},
		{"abc", "abxc", "aybc", "aybxc", ""},
		{"abcde", "axcde", "abcdy", "axcdy", ""},
		{"abcde", "ace", "abcdey", "acey", ""},
		{"abcde", "axcze", "axcde", "axcze", ""},
		{"aba", "aab", "xaba", "xaab", ""},
		// an item may be there more than once
		{"aa", "aaa", "aa", "aaa", ""},
		{"aab", "aabb", "xaab", "xaabb", ""},
		{"aba", "ababa", "xaba", "xababa", ""},
		// items that are fixed side by side have nothing between them
		{"abcd", "abxcd", "abcdy", "abxcdy", ""},
		// hunks
		{"abc", "axc", "ayc", "", "b:x:y"},
		{"abc", "ac", "ayc", "", "b::y"},
		{"abc", "axc", "ac", "", "b:x:"},
		{"", "a", "b", "", ":a:b"},
		{"", "ab", "a", "", ":ab:a"},
		{"ab", "xab", "yab", "", ":x:y"},
		{"ab", "abx", "aby", "", ":x:y"},
		{"ab", "axb", "ayb", "", ":x:y"},
		{"abcde", "axcze", "aycwe", "", "b:x:y d:z:w"},
		{"abcde", "xbcdz", "ybcdw", "", "a:x:y e:z:w"},
		// a piece that both changed, beside others
		{"abcdefg", "xbcydefg", "abczdeg", "", ":y:z"},
		{"abc", "xyc", "abd", "", "abc:xyc:abd"},
		{"abcd", "xycd", "zbcd", "", "ab:xy:zb"},
		{"abcd", "xbcd", "azcd", "", "ab:xb:az"},
		{"abc", "bca", "cab", "", "a::ca c:ca:"},
		{"abcde", "ace", "abcdye", "", "d::dy"},
		{"abc", "xyz", "uvw", "", "abc:xyz:uvw"},
		{"abc", "", "abcd", "", "abc::abcd"},
		{"abc", "dabc", "", "", "abc:dabc:"},
		{"ab", "ba", "abc", "", ":a:c"},
		{"ab", "ba", "xab", "", "a::xa"},
	} {
		l, h, err := three.Lines(letters(x.base), letters(x.ours), letters(x.theirs))
		if err != api.OK || !slices.Equal(l, letters(x.want)) || !sameHunks(h, hunks(x.hunks)) {
			t.Errorf("Lines(%s, %s, %s): %q, %q, %d, want %s, %s", x.base, x.ours, x.theirs, l, h, err, x.want, x.hunks)
		}
	}
}

// Items are compared whole, whatever their bytes are.
func TestLinesItems(t *testing.T) {
	x := strings.Repeat("x", 5000)
	l, h, err := three.Lines([]string{"a\n", "", x}, []string{"a", "", x}, []string{"a\n", "", x + "\xff"})
	if err != api.OK || len(h) != 0 || !slices.Equal(l, []string{"a", "", x + "\xff"}) {
		t.Errorf("%.20q, %.20q, %d", l, h, err)
	}
	l, h, err = three.Lines([]string{"a\n"}, []string{"a"}, []string{"a\n", ""})
	if err != api.OK || len(l) != 0 || !sameHunks(h, []three.Hunk{{Base: []string{"a\n"}, Ours: []string{"a"}, Theirs: []string{"a\n", ""}}}) {
		t.Errorf("%q, %q, %d", l, h, err)
	}
}

func TestLinesLong(t *testing.T) {
	most, more := numbers(0, api.MaxItems), numbers(0, api.MaxItems+1)
	for what, x := range map[string][3][]string{
		"base":            {more, nil, nil},
		"ours":            {nil, more, nil},
		"theirs":          {nil, nil, more},
		"all":             {more, more, more},
		"ours and theirs": {most, more, more},
		"theirs alone":    {most, most, more},
		"items alike":     {nil, nil, slices.Repeat([]string{"a"}, api.MaxItems+1)},
		"longer still":    {nil, letters("a"), numbers(0, 1<<17)},
	} {
		if l, h, err := three.Lines(x[0], x[1], x[2]); len(l) != 0 || len(h) != 0 || err != api.ErrLong {
			t.Errorf("%s: %d items, %d hunks, %d", what, len(l), len(h), err)
		}
	}
	first, last := slices.Clone(most), slices.Clone(most)
	first[0], last[api.MaxItems-1] = "x", "y"
	both := slices.Clone(first)
	both[api.MaxItems-1] = "y"
	other := numbers(api.MaxItems, api.MaxItems)
	for what, x := range map[string]struct {
		base, ours, theirs, want []string
		hunks                    []three.Hunk
	}{
		"the same":    {most, most, most, most, nil},
		"the ends":    {most, first, last, both, nil},
		"ours alone":  {most, other, most, other, nil},
		"all dropped": {most, nil, most, nil, nil},
		"one hunk":    {most, first, append([]string{"z"}, most[1:]...), nil, []three.Hunk{{Base: most[:1], Ours: first[:1], Theirs: []string{"z"}}}},
		"one is all":  {nil, most, other, nil, []three.Hunk{{Ours: most, Theirs: other}}},
	} {
		l, h, err := three.Lines(x.base, x.ours, x.theirs)
		if err != api.OK || !slices.Equal(l, x.want) || !sameHunks(h, x.hunks) {
			t.Errorf("%s: %d items, %d hunks, %d", what, len(l), len(h), err)
		}
	}
}

// P21.3 and P21.4

// checkLines holds Lines against the model.
func checkLines(t *testing.T, base, ours, theirs []string) {
	t.Helper()
	want, wantHunks := lines(base, ours, theirs)
	l, h, err := three.Lines(base, ours, theirs)
	if err != api.OK || !slices.Equal(l, want) || !sameHunks(h, wantHunks) {
		t.Fatalf("Lines(%q, %q, %q): %q, %q, %d, want %q, %q", base, ours, theirs, l, h, err, want, wantHunks)
	}
}

// Each three lists of up to three items of three kinds.
func TestLinesAll(t *testing.T) {
	all := [][]string{nil}
	for i := 0; len(all[i]) < 3; i++ {
		for _, s := range letters("abc") {
			all = append(all, append(slices.Clone(all[i]), s))
		}
	}
	for _, base := range all {
		for _, ours := range all {
			for _, theirs := range all {
				checkLines(t, base, ours, theirs)
			}
			sides(t, base, ours)
		}
	}
}

func TestLinesRandom(t *testing.T) {
	r := rand.New(rand.NewSource(22))
	merged, many := 0, 0
	for range 10000 {
		base := numbers(0, r.Intn(20))
		item := func() string { return []string{"", "3", "\n", "x\n", "5"}[r.Intn(5)] }
		if r.Intn(2) == 0 {
			base = changed(r, base, 30, item)
		}
		ours, theirs := changed(r, base, 5, item), changed(r, base, 5, item)
		checkLines(t, base, ours, theirs)
		sides(t, base, ours)
		l, h := lines(base, ours, theirs)
		if len(l) > 0 && !slices.Equal(l, ours) && !slices.Equal(l, theirs) {
			merged++
		}
		if len(h) > 1 {
			many++
		}
	}
	if merged < 500 || many < 500 {
		t.Error(merged, many)
	}
}

// Arguments stay as they are, their spare capacity too, and nothing of a result is shared, nor do two lists of one share any.
func TestLinesOwnMemory(t *testing.T) {
	base, ours, theirs, other := fresh("abcd"), fresh("xbcd"), fresh("abcy"), fresh("zbcw")
	for range 2 {
		for _, x := range []struct {
			ours, theirs []string
			want, hunks  string
		}{{base, base, "abcd", ""}, {ours, base, "xbcd", ""}, {base, ours, "xbcd", ""}, {ours, ours, "xbcd", ""}, {ours, theirs, "xbcy", ""}, {theirs, other, "", "d:y:w"}, {fresh("ubcv"), other, "", "a:u:z d:v:w"}} {
			l, h, err := three.Lines(base, x.ours, x.theirs)
			if err != api.OK || !slices.Equal(l, letters(x.want)) || !sameHunks(h, hunks(x.hunks)) {
				t.Fatalf("%q, %q, %d, want %s, %s", l, h, err, x.want, x.hunks)
			}
			overwrite(l, "changed")
			var parts [][]string
			for _, k := range h {
				parts = append(parts, k.Base, k.Ours, k.Theirs)
			}
			for i, p := range parts {
				overwrite(p, string(rune('A'+i)))
			}
			for i, p := range parts {
				if strings.Trim(strings.Join(p, ""), string(rune('A'+i))) != "" {
					t.Fatalf("%q: two lists share memory", h)
				}
			}
		}
		if !whole(base, "abcd") || !whole(ours, "xbcd") || !whole(theirs, "abcy") || !whole(other, "zbcw") {
			t.Fatal("an argument has changed")
		}
	}
}
