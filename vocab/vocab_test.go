package vocab_test

import (
	"math"
	"slices"
	"strconv"
	"strings"
	"testing"

	"stemma/api"
	"stemma/merges"
	"stemma/vocab"
)

// numbered returns n entries with the numbers from 0 on.
func numbered(n int) []vocab.Entry {
	l := make([]vocab.Entry, n)
	for i := range l {
		l[i] = vocab.Entry{ID: i, Token: "t" + strconv.Itoa(i)}
	}
	return l
}

// P9.1

func TestParse(t *testing.T) {
	long := strings.Repeat("q", 64)
	for _, c := range []struct {
		text string
		want []vocab.Entry
	}{
		{"", nil},
		{"0 a\n", []vocab.Entry{{0, "a"}}},
		{"0 a\n1 b\n", []vocab.Entry{{0, "a"}, {1, "b"}}},
		{"7 b\n10 a\n1073741824 ab\n", []vocab.Entry{{7, "b"}, {10, "a"}, {1 << 30, "ab"}}},
		{"9 0\n11 9\n", []vocab.Entry{{9, "0"}, {11, "9"}}},
		{"3 ~!\n", []vocab.Entry{{3, "~!"}}},
		{"3 " + long + "\n", []vocab.Entry{{3, long}}},
	} {
		l, line, err := vocab.Parse(c.text)
		if !slices.Equal(l, c.want) || line != 0 || err != api.OK {
			t.Errorf("Parse(%q): %v, %d, %d", c.text, l, line, err)
		}
		if back := vocab.Show(l); back != c.text {
			t.Errorf("Show of what Parse(%q) returns: %q", c.text, back)
		}
	}
}

func TestParseForm(t *testing.T) {
	for _, line := range []string{
		"", " ", "0", "0 ", " a", "a", "a 0", "0  a", " 0 a", "0 a ", "0 a b", "0\ta", "0 a\r",
		"00 a", "01 a", "-0 a", "+0 a", "+1 a", "-1 a", "0x1 a", "1_0 a", "1.0 a", "1e1 a", "\xd9\xa1 a",
		"1073741825 a", "2147483648 a", "9223372036854775807 a", "9223372036854775808 a",
		"18446744073709551616 a", "100000000000000000000000000 a", "-1073741824 a",
		"0 \x7f", "0 \xc3\xa4", "0 " + strings.Repeat("q", 65),
	} {
		for _, c := range []struct {
			text string
			line int
		}{
			{line + "\n", 1},
			{line + "\n5 x\n", 1},
			{"0 x\n5 y\n" + line + "\n", 3},
		} {
			l, n, err := vocab.Parse(c.text)
			if len(l) != 0 || n != c.line || err != api.ErrForm {
				t.Errorf("Parse(%q): %v, %d, %d, want line %d", c.text, l, n, err, c.line)
			}
		}
	}
}

func TestParseErrors(t *testing.T) {
	for _, c := range []struct {
		text string
		line int
		err  api.Errno
	}{
		{"0 a", 1, api.ErrForm},
		{"0 a\n1 b", 2, api.ErrForm},
		{"0 a\n0 a", 2, api.ErrForm},
		{"0 a\n0 b\n", 2, api.ErrOrder},
		{"1 a\n0 b\n", 2, api.ErrOrder},
		{"9 a\n10 b\n9 c\n", 3, api.ErrOrder},
		{"9 a\n10 b\n10 c\n", 3, api.ErrOrder},
		{"0 a\n0 a\n", 2, api.ErrOrder},
		{"1 a\n0 a\n", 2, api.ErrOrder},
		{"0 a\n1 a\n", 2, api.ErrExists},
		{"0 a\n1 b\n2 a\n", 3, api.ErrExists},
		{"0 a\n1 a\n1 b\n", 2, api.ErrExists},
		{"0 a\n0 b\n1 a\n", 2, api.ErrOrder},
		{"0 a\n\n0 b\n", 2, api.ErrForm},
	} {
		l, line, err := vocab.Parse(c.text)
		if len(l) != 0 || line != c.line || err != c.err {
			t.Errorf("Parse(%q): %v, %d, %d, want line %d and %d", c.text, l, line, err, c.line, c.err)
		}
	}
}

func TestParseLimits(t *testing.T) {
	full := vocab.Show(numbered(4096))
	l, line, err := vocab.Parse(full)
	if !slices.Equal(l, numbered(4096)) || line != 0 || err != api.OK {
		t.Errorf("4096 lines: %d entries, %d, %d", len(l), line, err)
	}
	for _, end := range []string{"4096 z\n", "4096 z", "\n", "0 z\n", "4096 t0\n"} {
		l, line, err := vocab.Parse(full + end)
		if len(l) != 0 || line != 4097 || err != api.ErrLong {
			t.Errorf("4096 lines and %q: %d entries, %d, %d", end, len(l), line, err)
		}
	}
	if l, line, err := vocab.Parse(strings.Repeat("\n", api.MaxBody)); len(l) != 0 || line != 1 || err != api.ErrForm {
		t.Errorf("MaxBody bytes: %v, %d, %d", l, line, err)
	}
	for _, s := range []string{strings.Repeat("\n", api.MaxBody+1), "0 a\n" + strings.Repeat("c", api.MaxBody)} {
		if l, line, err := vocab.Parse(s); len(l) != 0 || line != 0 || err != api.ErrLong {
			t.Errorf("%d bytes: %v, %d, %d", len(s), l, line, err)
		}
	}
}

func TestShow(t *testing.T) {
	for _, c := range []struct {
		l    []vocab.Entry
		want string
	}{
		{nil, ""},
		{[]vocab.Entry{}, ""},
		{[]vocab.Entry{{}}, "0 \n"},
		{[]vocab.Entry{{5, "b"}, {3, "a"}, {5, "b"}}, "5 b\n3 a\n5 b\n"},
		{[]vocab.Entry{{-1, "a b\n"}, {math.MinInt, "\xff"}}, "-1 a b\n\n-9223372036854775808 \xff\n"},
		{[]vocab.Entry{{math.MaxInt, strings.Repeat("a", 70)}}, "9223372036854775807 " + strings.Repeat("a", 70) + "\n"},
	} {
		if s := vocab.Show(c.l); s != c.want {
			t.Errorf("Show(%v): %q, want %q", c.l, s, c.want)
		}
	}
	if n := strings.Count(vocab.Show(numbered(5000)), "\n"); n != 5000 {
		t.Errorf("Show of 5000 entries: %d lines", n)
	}
}

// P9.2

// behind returns what Of adds to the tokens of one byte, with the numbers of these.
func behind(t *testing.T, l []merges.Pair) []string {
	t.Helper()
	entries := vocab.Of(l)
	if len(entries) < 94 {
		t.Fatalf("Of(%q): %d entries", l, len(entries))
	}
	var tokens []string
	for i, e := range entries {
		if e.ID != i {
			t.Errorf("Of(%q): entry %d is %v", l, i, e)
		}
		if i >= 94 {
			tokens = append(tokens, e.Token)
			continue
		}
		if e.Token != string([]byte{byte(0x21 + i)}) {
			t.Errorf("Of(%q): entry %d is %v", l, i, e)
		}
	}
	return tokens
}

func TestOf(t *testing.T) {
	q := strings.Repeat("q", 32)
	for _, c := range []struct {
		l    []merges.Pair
		want []string
	}{
		{nil, nil},
		{[]merges.Pair{{A: "a", B: "b"}}, []string{"ab"}},
		{[]merges.Pair{{A: "b", B: "a"}, {A: "a", B: "b"}}, []string{"ba", "ab"}},
		{[]merges.Pair{{A: "a", B: "b"}, {A: "b", B: "c"}, {A: "ab", B: "c"}, {A: "a", B: "bc"}, {A: "x", B: "y"}}, []string{"ab", "bc", "abc", "xy"}},
		{[]merges.Pair{{A: "a", B: "b"}, {A: "a", B: "b"}, {A: "c", B: "d"}}, []string{"ab", "cd"}},
		{[]merges.Pair{{A: q, B: q}, {A: "a", B: "b"}}, []string{q + q, "ab"}},
		{[]merges.Pair{{A: q, B: q + "q"}, {A: "a", B: "b"}}, []string{"ab"}},
		{[]merges.Pair{{A: "a", B: " "}, {A: "\n", B: "b"}, {A: "\x80", B: ""}, {A: "c", B: "d"}}, []string{"cd"}},
		{[]merges.Pair{{A: "", B: ""}, {A: "a", B: ""}, {A: "", B: "b"}, {A: "", B: "cd"}, {A: "c", B: "d"}}, []string{"cd"}},
		{[]merges.Pair{{A: "abc", B: "def"}, {A: "x", B: "yz"}}, []string{"abcdef", "xyz"}},
	} {
		if tokens := behind(t, c.l); !slices.Equal(tokens, c.want) {
			t.Errorf("Of(%q): %q, want %q", c.l, tokens, c.want)
		}
	}
}

func TestOfMany(t *testing.T) {
	l := make([]merges.Pair, 5000)
	want := make([]string, len(l))
	for i := range l {
		l[i] = merges.Pair{A: "t", B: strconv.Itoa(i)}
		want[i] = "t" + strconv.Itoa(i)
	}
	if tokens := behind(t, l); !slices.Equal(tokens, want) {
		t.Errorf("Of 5000 pairs: %d tokens", len(tokens))
	}
}
