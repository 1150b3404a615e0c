package merges_test

import (
	"math/rand"
	"slices"
	"strconv"
	"strings"
	"testing"

	"stemma/api"
	"stemma/merges"
)

// pairs returns the pairs that are written with a space within and a comma between.
func pairs(s string) []merges.Pair {
	var l []merges.Pair
	if s == "" {
		return l
	}
	for _, p := range strings.Split(s, ",") {
		a, b, _ := strings.Cut(p, " ")
		l = append(l, merges.Pair{A: a, B: b})
	}
	return l
}

// numbered returns n pairs of the form t1 x.
func numbered(n int) []merges.Pair {
	l := make([]merges.Pair, n)
	for i := range l {
		l[i] = merges.Pair{A: "t" + strconv.Itoa(i), B: "x"}
	}
	return l
}

// P8.1

func TestGoodBytes(t *testing.T) {
	for b := range 256 {
		want := b >= 0x21 && b <= 0x7e
		for _, s := range []string{"", "a", "ab"} {
			for _, end := range []string{"", "z"} {
				s := s + string([]byte{byte(b)}) + end
				if merges.Good(s) != want {
					t.Errorf("Good(%q): %v", s, !want)
				}
			}
		}
	}
}

func TestGoodLengths(t *testing.T) {
	for n := range 200 {
		want := n >= 1 && n <= 64
		if merges.Good(strings.Repeat("~", n)) != want {
			t.Errorf("Good of %d bytes: %v", n, !want)
		}
	}
}

func TestParse(t *testing.T) {
	long := strings.Repeat("q", 64)
	for _, c := range []struct{ text, want string }{
		{"", ""},
		{"a b\n", "a b"},
		{"a b\nab c\n", "a b,ab c"},
		{"ab c\na b\n", "ab c,a b"},
		{"a b\nb a\n", "a b,b a"},
		{"a bc\nab c\n", "a bc,ab c"},
		{"a a\n", "a a"},
		{"! ~\n", "! ~"},
		{long + " " + long + "\n", long + " " + long},
	} {
		l, line, err := merges.Parse(c.text)
		if !slices.Equal(l, pairs(c.want)) || line != 0 || err != api.OK {
			t.Errorf("Parse(%q): %v, %d, %d", c.text, l, line, err)
		}
		if back := merges.Show(l); back != c.text {
			t.Errorf("Show of what Parse(%q) returns: %q", c.text, back)
		}
	}
}

func TestParseErrors(t *testing.T) {
	long := strings.Repeat("q", 65)
	for _, c := range []struct {
		text string
		line int
		err  api.Errno
	}{
		{"\n", 1, api.ErrForm},
		{" \n", 1, api.ErrForm},
		{"a\n", 1, api.ErrForm},
		{"a \n", 1, api.ErrForm},
		{" b\n", 1, api.ErrForm},
		{"ab\n", 1, api.ErrForm},
		{"a  b\n", 1, api.ErrForm},
		{" a b\n", 1, api.ErrForm},
		{"a b \n", 1, api.ErrForm},
		{"a b c\n", 1, api.ErrForm},
		{"a\tb\n", 1, api.ErrForm},
		{"a b\r\n", 1, api.ErrForm},
		{"a \x7f\n", 1, api.ErrForm},
		{"\xc3\xa4 b\n", 1, api.ErrForm},
		{long + " b\n", 1, api.ErrForm},
		{"a " + long + "\n", 1, api.ErrForm},
		{"a", 1, api.ErrForm},
		{"a b", 1, api.ErrForm},
		{"a b\nb c", 2, api.ErrForm},
		{"a b\n\nb c\n", 2, api.ErrForm},
		{"a b\nb c\n\n", 3, api.ErrForm},
		{"a b\n ", 2, api.ErrForm},
		{"a b\na b\n", 2, api.ErrExists},
		{"a b\nb c\na b\n", 3, api.ErrExists},
		{"a b\na b", 2, api.ErrForm},
		{"a b\na b\n\n", 2, api.ErrExists},
		{"a b\n\na b\n", 2, api.ErrForm},
	} {
		l, line, err := merges.Parse(c.text)
		if len(l) != 0 || line != c.line || err != c.err {
			t.Errorf("Parse(%q): %v, %d, %d, want line %d and %d", c.text, l, line, err, c.line, c.err)
		}
	}
}

func TestParseLimits(t *testing.T) {
	full := merges.Show(numbered(4096))
	l, line, err := merges.Parse(full)
	if !slices.Equal(l, numbered(4096)) || line != 0 || err != api.OK {
		t.Errorf("4096 lines: %d pairs, %d, %d", len(l), line, err)
	}
	for _, end := range []string{"z z\n", "z z", "\n", "t0 x\n", "z z\n\n"} {
		l, line, err := merges.Parse(full + end)
		if len(l) != 0 || line != 4097 || err != api.ErrLong {
			t.Errorf("4096 lines and %q: %d pairs, %d, %d", end, len(l), line, err)
		}
	}
	late := strings.Replace(full, "t4095 x", "t4094 x", 1) + "z z\n"
	if _, line, err := merges.Parse(late); line != 4096 || err != api.ErrExists {
		t.Errorf("an error in line 4096 of 4097: %d, %d", line, err)
	}
}

func TestParseSize(t *testing.T) {
	if l, line, err := merges.Parse(strings.Repeat("\n", api.MaxBody)); len(l) != 0 || line != 1 || err != api.ErrForm {
		t.Errorf("MaxBody bytes: %v, %d, %d", l, line, err)
	}
	for _, s := range []string{strings.Repeat("\n", api.MaxBody+1), "a b\n" + strings.Repeat("c", api.MaxBody)} {
		if l, line, err := merges.Parse(s); len(l) != 0 || line != 0 || err != api.ErrLong {
			t.Errorf("%d bytes: %v, %d, %d", len(s), l, line, err)
		}
	}
	// Lines of 64 bytes fill a body to its last byte.
	var b strings.Builder
	for i := range 4096 {
		head := strconv.Itoa(i)
		b.WriteString(head + " " + strings.Repeat("b", 64-len(head)-2) + "\n")
	}
	if l, line, err := merges.Parse(b.String()); b.Len() != api.MaxBody || len(l) != 4096 || line != 0 || err != api.OK {
		t.Errorf("%d bytes: %d pairs, %d, %d", b.Len(), len(l), line, err)
	}
}

func TestShow(t *testing.T) {
	for _, c := range []struct {
		l    []merges.Pair
		want string
	}{
		{nil, ""},
		{[]merges.Pair{}, ""},
		{pairs("a b,ab c"), "a b\nab c\n"},
		{pairs("a b,a b"), "a b\na b\n"},
		{[]merges.Pair{{}}, " \n"},
		{[]merges.Pair{{A: "a\n", B: "\x00 "}, {B: strings.Repeat("b", 100)}}, "a\n \x00 \n " + strings.Repeat("b", 100) + "\n"},
	} {
		if s := merges.Show(c.l); s != c.want {
			t.Errorf("Show(%q): %q, want %q", c.l, s, c.want)
		}
	}
	if n := len(merges.Show(numbered(5000))); n != 5*10+6*90+7*900+8*4000 {
		t.Errorf("Show of 5000 pairs: %d bytes", n)
	}
}

// P8.2

func TestInvalid(t *testing.T) {
	for _, c := range []struct {
		list string
		want int
	}{
		{"", -1},
		{"a b", -1},
		{"a b,ab c", -1},
		{"a b,c ab", -1},
		{"a b,ab ab", -1},
		{"ab c", 0},
		{"c ab", 0},
		{"a b,c d,ab cd,abcd e", -1},
		{"ab c,a b", 0},
		{"a b,ab c,abd e,x", 2},
		{"a b,ba c", 1},
		{"a b,ab ba", 1},
		{"a bc", 0},
		{"b c,a bc,ab c", 2},
		{"b c,a bc,abc d", -1},
		{"a b,a b", -1},
		{"a ,ab c", 1},
		{" a, ab", 1},
		{"a b,aa aa,ab c", 1},
		{"aa a", 0},
	} {
		if i := merges.Invalid(pairs(c.list)); i != c.want {
			t.Errorf("Invalid(%s): %d, want %d", c.list, i, c.want)
		}
	}
	// A pair doesn't make a part of its own, and any bytes may be one.
	if i := merges.Invalid([]merges.Pair{{A: "\x00", B: "\xff"}, {A: "\x00\xff", B: ""}, {A: "ab", B: ""}}); i != 2 {
		t.Errorf("Invalid of a pair that makes its own part: %d", i)
	}
	if i := merges.Invalid([]merges.Pair{{}, {A: "\xc3\xa4", B: "b"}}); i != 1 {
		t.Errorf("Invalid of a part of two bytes: %d", i)
	}
}

// P8.3

// split follows the chapter's words one by one.
func split(l []merges.Pair, word string) []string {
	if len(word) > 4096 {
		return nil
	}
	var parts []string
	for i := range len(word) {
		parts = append(parts, word[i:i+1])
	}
	for {
		best := -1
		for i := 0; i+1 < len(parts); i++ {
			rank := slices.Index(l, merges.Pair{A: parts[i], B: parts[i+1]})
			if rank >= 0 && (best < 0 || rank < best) {
				best = rank
			}
		}
		if best < 0 {
			return parts
		}
		var next []string
		for len(parts) > 0 {
			if len(parts) > 1 && parts[0] == l[best].A && parts[1] == l[best].B {
				next = append(next, parts[0]+parts[1])
				parts = parts[2:]
				continue
			}
			next = append(next, parts[0])
			parts = parts[1:]
		}
		parts = next
	}
}

func TestSplit(t *testing.T) {
	for _, c := range []struct{ list, word, want string }{
		{"a b,ab c", "abcab", "abc ab"},
		{"", "", ""},
		{"a b", "", ""},
		{"", "abc", "a b c"},
		{"a b", "a", "a"},
		{"a b", "ab", "ab"},
		{"a b", "ba", "b a"},
		{"a b", "xaby", "x ab y"},
		{"a a", "aaa", "aa a"},
		{"a a", "aaaaa", "aa aa a"},
		{"a a,aa aa", "aaaaaaa", "aaaa aa a"},
		{"a a,aa a", "aaa", "aaa"},
		{"a a,a aa", "aaa", "aa a"},
		{"b c,a b", "abc", "a bc"},
		{"a b,b c", "abc", "ab c"},
		{"a b,b c,ab c", "abc", "abc"},
		{"a b,a b,b c", "abc", "ab c"},
		{"b c,a b,b c", "abcab", "a bc ab"},
		// A pair is applied everywhere ahead of those that it makes possible.
		{"ab a,a b", "abab", "ab ab"},
		{"ab a,a b", "ababa", "ab aba"},
		{"ab c,a b", "abcab", "abc ab"},
		{"abc d,c d,ab c,a b", "abcd", "ab cd"},
		// A part must be there whole.
		{"ab c", "abc", "a b c"},
		{"a bc", "abc", "a b c"},
		{"a bc,b c", "abc", "abc"},
		{"a bc,ab c,a b", "abc", "abc"},
		// Pairs with empty tokens split nothing.
		{"a ,a b", "ab", "ab"},
		{" a, ", "aa", "a a"},
	} {
		var want []string
		if c.want != "" {
			want = strings.Split(c.want, " ")
		}
		if l := merges.Split(pairs(c.list), c.word); !slices.Equal(l, want) {
			t.Errorf("Split(%s, %q): %q, want %q", c.list, c.word, l, want)
		}
	}
}

func TestSplitBytes(t *testing.T) {
	l := []merges.Pair{{A: "\xc3", B: "\xa4"}, {A: "\x00", B: "\n"}}
	want := []string{"\xa4", "\xc3\xa4", "\x00\n", "\xff"}
	if parts := merges.Split(l, "\xa4\xc3\xa4\x00\n\xff"); !slices.Equal(parts, want) {
		t.Errorf("Split of any bytes: %q", parts)
	}
}

func TestSplitLong(t *testing.T) {
	l := pairs("a a")
	for i := range 11 {
		a := strings.Repeat("a", 2<<i)
		l = append(l, merges.Pair{A: a, B: a})
	}
	word := strings.Repeat("a", 4096)
	if parts := merges.Split(l, word); !slices.Equal(parts, []string{word}) {
		t.Errorf("Split of 4096 bytes: %d parts", len(parts))
	}
	if parts := merges.Split(nil, word); len(parts) != 4096 {
		t.Errorf("Split of 4096 bytes by no pairs: %d parts", len(parts))
	}
	if parts := merges.Split(l, word+"a"); len(parts) != 0 {
		t.Errorf("Split of 4097 bytes: %d parts", len(parts))
	}
}

// TestSplitSteps has a pair applied once in each of 4095 steps.
func TestSplitSteps(t *testing.T) {
	word := strings.Repeat("b", 4095) + "a"
	l := make([]merges.Pair, 4095)
	for i := range l {
		l[i] = merges.Pair{A: "b", B: word[4095-i:]}
	}
	if parts := merges.Split(l, word); !slices.Equal(parts, []string{word}) {
		t.Errorf("Split: %d parts", len(parts))
	}
}

// random returns a text of n bytes of the first letters.
func random(r *rand.Rand, n, letters int) string {
	b := make([]byte, n)
	for i := range b {
		b[i] = byte('a' + r.Intn(letters))
	}
	return string(b)
}

// randomPairs returns pairs that may be equal and need not be valid.
func randomPairs(r *rand.Rand, n, letters int) []merges.Pair {
	var l []merges.Pair
	for range n {
		p := merges.Pair{A: random(r, 1+r.Intn(3), letters), B: random(r, 1+r.Intn(3), letters)}
		if len(l) > 0 && r.Intn(2) == 0 {
			q := l[r.Intn(len(l))]
			p.A = q.A + q.B
		}
		if len(l) > 0 && r.Intn(3) == 0 {
			q := l[r.Intn(len(l))]
			p.B = q.A + q.B
		}
		l = append(l, p)
	}
	return l
}

func TestSplitRandom(t *testing.T) {
	r := rand.New(rand.NewSource(8))
	for range 20000 {
		letters := 1 + r.Intn(3)
		l := randomPairs(r, r.Intn(12), letters)
		word := random(r, r.Intn(30), letters)
		if parts := merges.Split(l, word); !slices.Equal(parts, split(l, word)) {
			t.Fatalf("Split(%q, %q): %q, want %q", l, word, parts, split(l, word))
		}
	}
}

func TestInvalidRandom(t *testing.T) {
	r := rand.New(rand.NewSource(9))
	for range 20000 {
		l := randomPairs(r, r.Intn(8), 2)
		if i, want := merges.Invalid(l), invalid(l); i != want {
			t.Fatalf("Invalid(%q): %d, want %d", l, i, want)
		}
	}
}

// invalid is Invalid by a search of all earlier pairs.
func invalid(l []merges.Pair) int {
	for i, p := range l {
		for _, part := range []string{p.A, p.B} {
			made := func(q merges.Pair) bool { return q.A+q.B == part }
			if len(part) > 1 && !slices.ContainsFunc(l[:i], made) {
				return i
			}
		}
	}
	return -1
}

// P8.4

func TestSplitWhole(t *testing.T) {
	r := rand.New(rand.NewSource(10))
	for range 300 {
		letters := 1 + r.Intn(4)
		l := randomPairs(r, r.Intn(60), letters)
		word := random(r, r.Intn(4097), letters)
		parts := merges.Split(l, word)
		if strings.Join(parts, "") != word {
			t.Fatalf("Split(%q, %q): the parts aren't the word", l, word)
		}
		for i := 1; i < len(parts); i++ {
			if slices.Contains(l, merges.Pair{A: parts[i-1], B: parts[i]}) {
				t.Fatalf("Split(%q, %q): %q and %q are a pair", l, word, parts[i-1], parts[i])
			}
		}
	}
}

// TestArguments holds that the calls change nothing of a list, nor of what lies behind it.
func TestArguments(t *testing.T) {
	whole := pairs("a b,ab c,x y")
	before := slices.Clone(whole)
	l := whole[:2]
	merges.Show(l)
	merges.Invalid(l)
	first := merges.Split(l, "abcab")
	second := merges.Split(l, "abcab")
	first[0] = "q"
	if second[0] != "abc" {
		t.Error("two results of Split share memory")
	}
	if !slices.Equal(whole, before) {
		t.Errorf("the list is now %q", whole)
	}
}
