package rules_test

import (
	"math/rand"
	"slices"
	"strconv"
	"strings"
	"testing"

	"stemma/api"
	"stemma/merges"
	"stemma/rules"
	"stemma/vocab"
)

// numbered returns n rules in ascending order of their names.
func numbered(n int) []rules.Rule {
	l := make([]rules.Rule, n)
	for i := range l {
		l[i] = rules.Rule{Name: "r" + strconv.Itoa(10000+i), Pattern: "x"}
	}
	return l
}

// P10.1

func TestGoodBytes(t *testing.T) {
	for b := range 256 {
		want := b >= 'a' && b <= 'z' || b >= '0' && b <= '9' || b == '-'
		for _, begin := range []string{"", "a", "a-"} {
			for _, end := range []string{"", "0"} {
				s := begin + string([]byte{byte(b)}) + end
				if rules.Good(s) != want {
					t.Errorf("Good(%q): %v", s, !want)
				}
			}
		}
	}
}

func TestGoodLengths(t *testing.T) {
	for n := range 200 {
		want := n >= 1 && n <= 32
		if rules.Good(strings.Repeat("a", n)) != want {
			t.Errorf("Good of %d bytes: %v", n, !want)
		}
	}
}

func TestParse(t *testing.T) {
	name, pattern := strings.Repeat("n", 32), strings.Repeat("~", 256)
	for _, c := range []struct {
		text string
		want []rules.Rule
	}{
		{"", nil},
		{"digits [0-9]+\n", []rules.Rule{{"digits", "[0-9]+"}}},
		{"a x\nb x\n", []rules.Rule{{"a", "x"}, {"b", "x"}}},
		{"a x\naa x\nab x\nb x\n", []rules.Rule{{"a", "x"}, {"aa", "x"}, {"ab", "x"}, {"b", "x"}}},
		{"- x\n0 x\n9 x\na x\nz x\n", []rules.Rule{{"-", "x"}, {"0", "x"}, {"9", "x"}, {"a", "x"}, {"z", "x"}}},
		{"a-b x\na0 x\n", []rules.Rule{{"a-b", "x"}, {"a0", "x"}}},
		{"10 x\n9 x\n", []rules.Rule{{"10", "x"}, {"9", "x"}}},
		{"a b c\n", []rules.Rule{{"a", "b c"}}},
		{"a  b\n", []rules.Rule{{"a", " b"}}},
		{"a b \n", []rules.Rule{{"a", "b "}}},
		{"a  \n", []rules.Rule{{"a", " "}}},
		{"a (\n", []rules.Rule{{"a", "("}}},
		{name + " " + pattern + "\n", []rules.Rule{{name, pattern}}},
	} {
		l, line, err := rules.Parse(c.text)
		if !slices.Equal(l, c.want) || line != 0 || err != api.OK {
			t.Errorf("Parse(%q): %q, %d, %d", c.text, l, line, err)
		}
		if back := rules.Show(l); back != c.text {
			t.Errorf("Show of what Parse(%q) returns: %q", c.text, back)
		}
	}
}

func TestParsePatternBytes(t *testing.T) {
	for b := range 256 {
		if b == '\n' {
			continue
		}
		want := b >= 0x20 && b <= 0x7e
		for _, pattern := range []string{"", "x", "xy"} {
			for _, end := range []string{"", "z"} {
				r := rules.Rule{Name: "a", Pattern: pattern + string([]byte{byte(b)}) + end}
				checkRule(t, r, want)
			}
		}
	}
}

func TestParseLengths(t *testing.T) {
	for n := range 70 {
		checkRule(t, rules.Rule{Name: strings.Repeat("a", n), Pattern: "x"}, n >= 1 && n <= 32)
	}
	for n := range 600 {
		checkRule(t, rules.Rule{Name: "a", Pattern: strings.Repeat("x", n)}, n >= 1 && n <= 256)
	}
}

// checkRule checks whether a rule's line is parsed, on its own and behind another one.
func checkRule(t *testing.T, r rules.Rule, want bool) {
	t.Helper()
	first := rules.Rule{Name: "-", Pattern: "y"}
	for _, l := range [][]rules.Rule{{r}, {first, r}} {
		s := rules.Show(l)
		parsed, line, err := rules.Parse(s)
		if want && (!slices.Equal(parsed, l) || line != 0 || err != api.OK) {
			t.Errorf("Parse(%q): %q, %d, %d", s, parsed, line, err)
		}
		if !want && (len(parsed) != 0 || line != len(l) || err != api.ErrForm) {
			t.Errorf("Parse(%q): %q, %d, %d, want ErrForm", s, parsed, line, err)
		}
	}
}

// wrongRules are texts with the first line that is wrong, and its error.
var wrongRules = []struct {
	text string
	line int
	err  api.Errno
}{
	{"\n", 1, api.ErrForm},
	{" \n", 1, api.ErrForm},
	{"a\n", 1, api.ErrForm},
	{"a \n", 1, api.ErrForm},
	{" b\n", 1, api.ErrForm},
	{" a b\n", 1, api.ErrForm},
	{"a\tb\n", 1, api.ErrForm},
	{"a b\r\n", 1, api.ErrForm},
	{"a b\x00\n", 1, api.ErrForm},
	{"a \x7f\n", 1, api.ErrForm},
	{"a \xc3\xa4\n", 1, api.ErrForm},
	{"\xc3\xa4 b\n", 1, api.ErrForm},
	{"A b\n", 1, api.ErrForm},
	{"a_b c\n", 1, api.ErrForm},
	{"a.b c\n", 1, api.ErrForm},
	{"a", 1, api.ErrForm},
	{"a b", 1, api.ErrForm},
	{"a b\nb c", 2, api.ErrForm},
	{"a b\n\nb c\n", 2, api.ErrForm},
	{"a b\nb c\n\n", 3, api.ErrForm},
	{"a b\n ", 2, api.ErrForm},
	{"a b\na b\n", 2, api.ErrOrder},
	{"a b\na c\n", 2, api.ErrOrder},
	{"b x\na x\n", 2, api.ErrOrder},
	{"a x\nc x\nb x\n", 3, api.ErrOrder},
	{"ab x\na x\n", 2, api.ErrOrder},
	{"a0 x\na-b x\n", 2, api.ErrOrder},
	{"9 x\n10 x\n", 2, api.ErrOrder},
	{"a x\n0 x\n", 2, api.ErrOrder},
	{"b x\na x", 2, api.ErrForm},
	{"b x\na\n", 2, api.ErrForm},
	{"b x\na x\n\n", 2, api.ErrOrder},
	{"b x\n\na x\n", 2, api.ErrForm},
}

func TestParseErrors(t *testing.T) {
	for _, c := range wrongRules {
		l, line, err := rules.Parse(c.text)
		if len(l) != 0 || line != c.line || err != c.err {
			t.Errorf("Parse(%q): %q, %d, %d, want line %d and %d", c.text, l, line, err, c.line, c.err)
		}
	}
}

func TestParseLimits(t *testing.T) {
	full := rules.Show(numbered(4096))
	l, line, err := rules.Parse(full)
	if !slices.Equal(l, numbered(4096)) || line != 0 || err != api.OK {
		t.Errorf("4096 lines: %d rules, %d, %d", len(l), line, err)
	}
	for _, end := range []string{"z z\n", "z z", "\n", "a z\n", "z z\n\n"} {
		l, line, err := rules.Parse(full + end)
		if len(l) != 0 || line != 4097 || err != api.ErrLong {
			t.Errorf("4096 lines and %q: %d rules, %d, %d", end, len(l), line, err)
		}
	}
	late := strings.Replace(full, "r14095 x", "r14094 x", 1) + "z z\n"
	if _, line, err := rules.Parse(late); line != 4096 || err != api.ErrOrder {
		t.Errorf("an error in line 4096 of 4097: %d, %d", line, err)
	}
}

func TestParseSize(t *testing.T) {
	if l, line, err := rules.Parse(strings.Repeat("\n", api.MaxBody)); len(l) != 0 || line != 1 || err != api.ErrForm {
		t.Errorf("MaxBody bytes: %q, %d, %d", l, line, err)
	}
	for _, s := range []string{strings.Repeat("\n", api.MaxBody+1), "a b\n" + strings.Repeat("c", api.MaxBody)} {
		if l, line, err := rules.Parse(s); len(l) != 0 || line != 0 || err != api.ErrLong {
			t.Errorf("%d bytes: %q, %d, %d", len(s), l, line, err)
		}
	}
	// Lines of 256 bytes fill a body to its last byte.
	l := numbered(api.MaxBody / 256)
	for i := range l {
		l[i].Pattern = strings.Repeat("p", 256-len(l[i].Name)-2)
	}
	s := rules.Show(l)
	if parsed, line, err := rules.Parse(s); len(s) != api.MaxBody || !slices.Equal(parsed, l) || line != 0 || err != api.OK {
		t.Errorf("rules of %d bytes: %d, %d, %d", len(s), len(parsed), line, err)
	}
	l[0].Pattern += "p"
	if parsed, line, err := rules.Parse(rules.Show(l)); len(parsed) != 0 || line != 0 || err != api.ErrLong {
		t.Errorf("rules of a byte more: %d, %d, %d", len(parsed), line, err)
	}
}

// TestParseAnything: whatever Parse takes, Show makes of it what it was, and its rules are as described.
func TestParseAnything(t *testing.T) {
	r := rand.New(rand.NewSource(10))
	for range 200000 {
		b := make([]byte, r.Intn(14))
		for i := range b {
			b[i] = "ab0-A \n\n\x7f"[r.Intn(9)]
		}
		s := string(b)
		l, line, err := rules.Parse(s)
		if err != api.OK && (len(l) != 0 || line < 1) || err == api.OK && (rules.Show(l) != s || line != 0) {
			t.Fatalf("Parse(%q): %q, %d, %d", s, l, line, err)
		}
		for i, x := range l {
			if !rules.Good(x.Name) || x.Pattern == "" || i > 0 && l[i-1].Name >= x.Name {
				t.Fatalf("Parse(%q): %q", s, l)
			}
		}
	}
}

func TestParseReturnsNewLists(t *testing.T) {
	s := "a b\nc d\n"
	l, _, _ := rules.Parse(s)
	l[0].Name = "changed"
	if m, _, err := rules.Parse(s); err != api.OK || rules.Show(m) != s {
		t.Errorf("%q, %d", m, err)
	}
}

func TestShowAnything(t *testing.T) {
	for _, c := range []struct {
		l    []rules.Rule
		want string
	}{
		{nil, ""},
		{[]rules.Rule{}, ""},
		{[]rules.Rule{{}}, " \n"},
		{[]rules.Rule{{"b", "x"}, {"a", "y"}, {"b", "x"}}, "b x\na y\nb x\n"},
		{[]rules.Rule{{"A b", "c\nd"}, {"\xff", ""}}, "A b c\nd\n\xff \n"},
		{[]rules.Rule{{strings.Repeat("a", 100), strings.Repeat("b", 1000)}}, strings.Repeat("a", 100) + " " + strings.Repeat("b", 1000) + "\n"},
	} {
		before := slices.Clone(c.l)
		if s := rules.Show(c.l); s != c.want || !slices.Equal(c.l, before) {
			t.Errorf("Show(%q): %q", c.l, s)
		}
	}
	if s := rules.Show(numbered(5000)); strings.Count(s, "\n") != 5000 {
		t.Errorf("%d lines of 5000", strings.Count(s, "\n"))
	}
}

// P10.2

func TestLines(t *testing.T) {
	for _, c := range []struct {
		text string
		want []string
	}{
		{"", nil},
		{"a", []string{"a"}},
		{"a\n", []string{"a\n"}},
		{"a\nb", []string{"a\n", "b"}},
		{"a\nb\n", []string{"a\n", "b\n"}},
		{"\n", []string{"\n"}},
		{"\n\n", []string{"\n", "\n"}},
		{"\na", []string{"\n", "a"}},
		{"a\n\nb", []string{"a\n", "\n", "b"}},
		{"a\r\nb\rc\x00\xff\n", []string{"a\r\n", "b\rc\x00\xff\n"}},
		{"\u2028a\u0085b\n", []string{"\u2028a\u0085b\n"}},
	} {
		if l := rules.Lines(c.text); !slices.Equal(l, c.want) {
			t.Errorf("Lines(%q): %q", c.text, l)
		}
	}
	// No limit counts here.
	if l := rules.Lines(strings.Repeat("a\n", api.MaxBody)); len(l) != api.MaxBody {
		t.Errorf("%d lines", len(l))
	}
}

func TestLinesAnything(t *testing.T) {
	r := rand.New(rand.NewSource(11))
	for range 20000 {
		b := make([]byte, r.Intn(20))
		for i := range b {
			b[i] = "ab\r\n\n"[r.Intn(5)]
		}
		s := string(b)
		l := rules.Lines(s)
		if strings.Join(l, "") != s {
			t.Fatalf("Lines(%q): %q", s, l)
		}
		for i, line := range l {
			newline := strings.IndexByte(line, '\n')
			if line == "" || newline >= 0 && newline != len(line)-1 || newline < 0 && i != len(l)-1 {
				t.Fatalf("Lines(%q): %q", s, l)
			}
		}
	}
}

func TestKindNumbers(t *testing.T) {
	kinds := []int{rules.Blob, rules.Merges, rules.Vocab, rules.Rules, rules.Template}
	if !slices.Equal(kinds, []int{0, 1, 2, 3, 4}) {
		t.Errorf("%v", kinds)
	}
}

func TestKind(t *testing.T) {
	for end, want := range map[string]int{"merges": 1, "vocab": 2, "rules": 3, "chat": 4} {
		for _, name := range []string{"." + end, "a." + end, "a.b." + end, "a.chat." + end, "a." + end + "." + end, "a b/\xff\n." + end, strings.Repeat("a", 1000) + "." + end} {
			if kind := rules.Kind(name); kind != want {
				t.Errorf("Kind(%q): %d, want %d", name, kind, want)
			}
		}
		for _, name := range []string{end, "a" + end, "a." + end + " ", "a." + end + "\n", "a." + end + "x", "a." + end + ".", "a." + end[:len(end)-1], "a." + strings.ToUpper(end), "a. " + end, "a." + end + ".txt"} {
			if kind := rules.Kind(name); kind != 0 {
				t.Errorf("Kind(%q): %d, want 0", name, kind)
			}
		}
	}
	for _, name := range []string{"", ".", "a", "a.txt", "a.rule", "a.template", "a.blob", "\xff"} {
		if kind := rules.Kind(name); kind != 0 {
			t.Errorf("Kind(%q): %d, want 0", name, kind)
		}
	}
}

func TestCheck(t *testing.T) {
	for _, c := range []struct {
		kind int
		text string
		line int
		err  api.Errno
	}{
		{rules.Merges, "", 0, api.OK},
		{rules.Merges, "a b\nab c\n", 0, api.OK},
		{rules.Merges, "a b", 1, api.ErrForm},
		{rules.Merges, "a b\na\n", 2, api.ErrForm},
		{rules.Merges, "a b\na b\n", 2, api.ErrExists},
		{rules.Merges, "ab c\n", 1, api.ErrValid},
		{rules.Merges, "a bc\n", 1, api.ErrValid},
		{rules.Merges, "ab c\na b\n", 1, api.ErrValid},
		{rules.Merges, "a b\nab c\nbc a\nxy z\n", 3, api.ErrValid},
		{rules.Merges, "ab c\na\n", 2, api.ErrForm}, // the form of all lines goes before what they say
		{rules.Merges, "ab c\nab c\n", 2, api.ErrExists},
		{rules.Merges, strings.Repeat("\n", api.MaxBody+1), 0, api.ErrLong},
		{rules.Vocab, "", 0, api.OK},
		{rules.Vocab, "0 a\n7 ab\n", 0, api.OK},
		{rules.Vocab, "0 a\n00 b\n", 2, api.ErrForm},
		{rules.Vocab, "1 a\n0 b\n", 2, api.ErrOrder},
		{rules.Vocab, "0 a\n1 b\n2 a\n", 3, api.ErrExists},
		{rules.Vocab, strings.Repeat("\n", api.MaxBody+1), 0, api.ErrLong},
		{rules.Rules, "", 0, api.OK},
		{rules.Rules, "a b\nab c\n", 0, api.OK},
		{rules.Rules, "ab c\n", 0, api.OK},
		{rules.Rules, strings.Repeat("\n", api.MaxBody+1), 0, api.ErrLong},
	} {
		if line, err := rules.Check(c.kind, c.text); line != c.line || err != c.err {
			t.Errorf("Check(%d, %.40q): %d, %d, want %d, %d", c.kind, c.text, line, err, c.line, c.err)
		}
	}
	for _, c := range wrongRules {
		if line, err := rules.Check(rules.Rules, c.text); line != c.line || err != c.err {
			t.Errorf("Check of the rules %q: %d, %d, want %d, %d", c.text, line, err, c.line, c.err)
		}
	}
}

// TestCheckLimits: the texts of lists have at most 4096 lines.
func TestCheckLimits(t *testing.T) {
	var pairs []merges.Pair
	var entries []vocab.Entry
	for i := range 4096 {
		pairs = append(pairs, merges.Pair{A: string([]byte{byte('!' + i/64)}), B: string([]byte{byte('!' + i%64)})})
		entries = append(entries, vocab.Entry{ID: i, Token: strconv.Itoa(i)})
	}
	for kind, s := range map[int]string{
		rules.Merges: merges.Show(pairs),
		rules.Vocab:  vocab.Show(entries),
		rules.Rules:  rules.Show(numbered(4096)),
	} {
		if line, err := rules.Check(kind, s); line != 0 || err != api.OK {
			t.Errorf("4096 lines of kind %d: %d, %d", kind, line, err)
		}
		if line, err := rules.Check(kind, s+"x"); line != 4097 || err != api.ErrLong {
			t.Errorf("4097 lines of kind %d: %d, %d", kind, line, err)
		}
	}
	late := merges.Show(append(pairs[:4095:4095], merges.Pair{A: "xyz", B: "a"}))
	if line, err := rules.Check(rules.Merges, late); line != 4096 || err != api.ErrValid {
		t.Errorf("an invalid last pair: %d, %d", line, err)
	}
}

// TestCheckOthers: of the other kinds, and of numbers that are none, only the length counts.
func TestCheckOthers(t *testing.T) {
	for _, kind := range []int{rules.Blob, rules.Template, -1, 5, 100, 1 << 40, -1 << 62} {
		for _, s := range []string{"", "a", "\x00\xff\n\n", "a b\na b", strings.Repeat("\n", api.MaxBody)} {
			if line, err := rules.Check(kind, s); line != 0 || err != api.OK {
				t.Errorf("Check(%d, %.40q): %d, %d", kind, s, line, err)
			}
		}
		for _, n := range []int{1, 2, api.MaxBody} {
			if line, err := rules.Check(kind, strings.Repeat("a", api.MaxBody+n)); line != 0 || err != api.ErrLong {
				t.Errorf("Check(%d) of %d bytes too many: %d, %d", kind, n, line, err)
			}
		}
	}
}
