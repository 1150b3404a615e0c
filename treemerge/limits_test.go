package treemerge_test

import (
	"fmt"
	"slices"
	"strings"
	"testing"

	"stemma/api"
	"stemma/keydiff"
	"stemma/treemerge"
)

// P22.2, at the limits of layers 8 to 10 and 21

// pairs returns n lines of pairs of single bytes, from one on: all distinct.
func pairs(from, n int) string {
	var b strings.Builder
	for i := from; i < from+n; i++ {
		fmt.Fprintf(&b, "%c %c\n", 0x21+i/94, 0x21+i%94)
	}
	return b.String()
}

// line returns the text of a line, counted from 1.
func line(s string, n int) string { return strings.SplitAfter(s, "\n")[n-1] }

func TestManyMerges(t *testing.T) {
	most, half := api.MaxItems, api.MaxItems/2
	all := pairs(0, 2*most)
	check(t, []one{
		{"a.merges", "", pairs(0, half), pairs(half, half), pairs(0, most), nil},
		{"a.merges", "", pairs(0, half), pairs(half, half+1), "", conflicting(treemerge.Valid, line(all, most+1))},
		{"a.merges", "", pairs(0, most), pairs(most, most), "", conflicting(treemerge.Valid, line(all, most+1))},
		{"a.merges", pairs(0, most), pairs(1, most), pairs(1, most-1) + pairs(most+1, 1), "", conflicting(treemerge.Valid, line(all, most+2))},
		{"a.merges", pairs(0, most), pairs(100, most), pairs(half, half), pairs(half, half) + pairs(most, 100), nil},
		// what is more than a list may have on one side alone
		{"a.merges", "", pairs(0, most+1), pairs(most, 1), "", bare(treemerge.File)},
		{"a.merges", pairs(0, most+1), pairs(0, most), pairs(1, most), "", bare(treemerge.File)},
	})
}

func TestManyEntries(t *testing.T) {
	// entries returns n lines from one on, each second of all numbers.
	entries := func(from, n int) string {
		var b strings.Builder
		for i := from; i < from+2*n; i += 2 {
			fmt.Fprintf(&b, "%d t%d\n", i, i)
		}
		return b.String()
	}
	rule := func(from, n int) string {
		var b strings.Builder
		for i := from; i < from+2*n; i += 2 {
			fmt.Fprintf(&b, "r%06d %d\n", i, i)
		}
		return b.String()
	}
	most, half := api.MaxItems, api.MaxItems/2
	woven := func(odd, even string) string {
		a, b := strings.SplitAfter(odd, "\n"), strings.SplitAfter(even, "\n")
		var s strings.Builder
		for i := range b {
			s.WriteString(b[i])
			s.WriteString(a[i])
		}
		return s.String()
	}
	check(t, []one{
		{"a.vocab", "", entries(1, half), entries(0, half), woven(entries(1, half), entries(0, half)), nil},
		{"a.vocab", "", entries(1, half), entries(0, half+1), "", conflicting(treemerge.Valid, fmt.Sprintf("%d t%d\n", most, most))},
		{"a.vocab", "", entries(1, most), entries(0, most), "", conflicting(treemerge.Valid, fmt.Sprintf("%d t%d\n", most, most))},
		{"a.rules", "", rule(1, half), rule(0, half), woven(rule(1, half), rule(0, half)), nil},
		{"a.rules", "", rule(1, half+1), rule(0, half), "", conflicting(treemerge.Valid, fmt.Sprintf("r%06d %d\n", most+1, most+1))},
		{"a.rules", "", rule(1, most), rule(0, most), "", conflicting(treemerge.Valid, fmt.Sprintf("r%06d %d\n", most, most))},
	})
}

// A merged text of more than MaxBody bytes is wrong in no line.
func TestLongTexts(t *testing.T) {
	// 1000 rules of some 150 bytes each
	rule := func(letter string) string {
		var b strings.Builder
		for i := range 1000 {
			fmt.Fprintf(&b, "%s%05d %s\n", letter, i, strings.Repeat("x", 150))
		}
		return b.String()
	}
	entries := func(from int) string {
		var b strings.Builder
		for i := from; i < from+1900; i++ {
			fmt.Fprintf(&b, "%d %064d\n", i, i)
		}
		return b.String()
	}
	// 62 pairs for a token of 63 bytes, 46 of 64 bytes, and all pairs of these, of which each side has half.
	shared, first, second := longMerges()
	valid := bare(treemerge.Valid)
	check(t, []one{
		{"a.rules", "", rule("a"), rule("b"), "", valid},
		{"a.rules", "", rule("a"), "b 1\n", rule("a") + "b 1\n", nil},
		{"a.vocab", "", entries(1000), entries(3000), "", valid},
		{"a.merges", shared, shared + first, shared + second, "", valid},
		{"a.merges", shared, shared + first, "x y\n" + shared, "x y\n" + shared + first, nil},
	})
}

// longMerges returns merges on which two others build, that together are too long.
func longMerges() (shared, first, second string) {
	var b strings.Builder
	for n := 1; n < 63; n++ {
		fmt.Fprintf(&b, "%s a\n", strings.Repeat("a", n))
	}
	long := strings.Repeat("a", 63)
	var tokens []string
	for c := byte('A'); len(tokens) < 46; c++ {
		fmt.Fprintf(&b, "%s %c\n", long, c)
		tokens = append(tokens, long+string([]byte{c}))
	}
	shared = b.String()
	var halves [2]strings.Builder
	for i, x := range tokens {
		for _, y := range tokens {
			fmt.Fprintf(&halves[i/23], "%s %s\n", x, y)
		}
	}
	return shared, halves[0].String(), halves[1].String()
}

func TestManyLines(t *testing.T) {
	numbered := func(n int) string {
		var b strings.Builder
		for i := range n {
			fmt.Fprintf(&b, "%d\n", i)
		}
		return b.String()
	}
	most := numbered(api.MaxItems)
	more := numbered(api.MaxItems + 1)
	inner := strings.TrimSuffix(strings.TrimPrefix(most, "0\n"), "4095\n")
	half := strings.Repeat("x", api.MaxBody/2)
	check(t, []one{
		{"a.chat", most, "x\n" + inner + "4095\n", "0\n" + inner + "y\n", "x\n" + inner + "y\n", nil},
		{"a.chat", most, "x\n" + inner + "4095\n", "y\n" + inner + "4095", "", []treemerge.Conflict{conflict("", treemerge.Lines, "0\n", "x\n", "y\n")}},
		{"a.chat", more, "1\n", "2\n", "", bare(treemerge.File)},
		{"a.chat", "1\n", more, "2\n", "", bare(treemerge.File)},
		{"a.chat", "1\n", "2\n", more, "", bare(treemerge.File)},
		{"a.chat", "1\n", "2\n", strings.Repeat("\n", api.MaxBody), "", bare(treemerge.File)},
		{"a.chat", most, "x\n" + most[len("0\n"):], more, "", bare(treemerge.File)},
		// the result may have more lines than a side
		{"a.chat", inner, "x\n" + inner + "z\n", "", "", []treemerge.Conflict{conflict("", treemerge.Lines, inner, "x\n"+inner+"z\n", "")}},
		{"a.chat", inner + "e\n", "x\n" + inner + "e\n", inner + "e\nz\n", "x\n" + inner + "e\nz\n", nil},
		{"a.chat", inner + "e\n", "x\ny\n" + inner + "e\n", inner + "e\nz\n", "", bare(treemerge.File)},
		// more bytes than a file may have
		{"a.chat", "1\n2\n", half + "\n1\n2\n", "1\n2\n" + half[4:], "", bare(treemerge.Valid)},
		{"a.chat", "1\n2\n", half + "\n1\n2\n", "1\n2\n" + half[5:], half + "\n1\n2\n" + half[5:], nil},
	})
}

// Arguments stay as they are, their spare capacity too, and nothing of a result is shared.
func TestOwnMemory(t *testing.T) {
	spare := keydiff.Item{Key: "spare", Value: "spare"}
	fresh := func(l ...string) []keydiff.Item {
		x := append(append(make([]keydiff.Item, 0, 16), files(l...)...), spare, spare)
		return x[:len(x)-2]
	}
	args := [][]string{
		{"a.merges", "a b\n", "b", "1", "c.chat", "1\n2\n"},
		{"a.merges", "a b\nb c\n", "b", "1", "c.chat", "x\n1\n2\n"},
		{"a.merges", "x y\na b\n", "b", "2", "c.chat", "1\n2\ny\n"},
		{"a.merges", "", "b", "3", "c.chat", "3\n"},
		{"a.merges", "x y\na b\n", "b", "1", "c.chat", "4\n", "d", "1"},
	}
	var l [][]keydiff.Item
	for _, a := range args {
		l = append(l, fresh(a...))
	}
	want := map[string][]keydiff.Item{
		"012": files("a.merges", "x y\na b\nb c\n", "b", "2", "c.chat", "x\n1\n2\ny\n"),
		"001": files(args[1]...), "010": files(args[1]...), "011": files(args[1]...), "000": files(args[0]...),
		"034": nil,
	}
	for range 2 {
		for key, w := range want {
			made, conflicts, err := treemerge.Merge(l[key[0]-'0'], l[key[1]-'0'], l[key[2]-'0'])
			if err != api.OK || !slices.Equal(made, w) || (len(conflicts) > 0) != (w == nil) {
				t.Fatalf("%s: %q, %s, %d", key, made, told(conflicts), err)
			}
			overwrite(made, spare)
			for _, c := range conflicts {
				overwrite(c.Items, "changed")
			}
			overwrite(conflicts, treemerge.Conflict{Name: "changed"})
		}
		for i, x := range l {
			if !slices.Equal(x, files(args[i]...)) || !slices.Equal(x[len(x):len(x)+2], []keydiff.Item{spare, spare}) {
				t.Fatal("an argument has changed")
			}
		}
	}
}

// The items of two conflicts of one answer are lists of their own.
func TestOwnItems(t *testing.T) {
	base := files("a.chat", "1\n2\n3\n", "b.rules", "", "c.merges", "a b\nb c\n")
	ours := files("a.chat", "x\n2\ny\n", "b.rules", "a 1\nb 1\n", "c.merges", "b c\na b\n")
	theirs := files("a.chat", "z\n2\nz\n", "b.rules", "a 2\nb 2\n", "c.merges", "a b\nb c\nc d\n")
	_, c, _ := treemerge.Merge(base, ours, theirs)
	if len(c) != 5 {
		t.Fatal(told(c))
	}
	want := make([][]string, len(c))
	for i := range c {
		want[i] = slices.Clone(c[i].Items)
	}
	for i := range c {
		overwrite(c[i].Items, "changed")
		for j := i + 1; j < len(c); j++ {
			if !slices.Equal(c[j].Items, want[j]) {
				t.Errorf("conflict %d shares its items with conflict %d", j, i)
			}
		}
	}
}

// overwrite writes x over all of l, its spare capacity too.
func overwrite[T any](l []T, x T) {
	l = l[:cap(l)]
	for i := range l {
		l[i] = x
	}
}
