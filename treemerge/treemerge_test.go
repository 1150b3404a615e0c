package treemerge_test

import (
	"fmt"
	"slices"
	"strings"
	"testing"

	"stemma/api"
	"stemma/keydiff"
	"stemma/treemerge"
)

// none is the text of a file that is not there.
const none = "\x00"

// files returns a list of files: names and texts in turn.
func files(l ...string) []keydiff.Item {
	var items []keydiff.Item
	for x := range slices.Chunk(l, 2) {
		if x[1] != none {
			items = append(items, keydiff.Item{Key: x[0], Value: x[1]})
		}
	}
	return items
}

// conflict returns one of a file.
func conflict(name string, what int, items ...string) treemerge.Conflict {
	return treemerge.Conflict{Name: name, What: what, Items: items}
}

func sameConflicts(a, b []treemerge.Conflict) bool {
	return slices.EqualFunc(a, b, func(x, y treemerge.Conflict) bool {
		return x.Name == y.Name && x.What == y.What && slices.Equal(x.Items, y.Items)
	})
}

// told returns conflicts as an error tells them.
func told(l []treemerge.Conflict) string {
	var b strings.Builder
	for _, c := range l {
		fmt.Fprintf(&b, "[%q %d %.100q]", c.Name, c.What, c.Items)
	}
	return b.String()
}

// merges says what Merge must return, with OK.
func merges(t *testing.T, what string, base, ours, theirs, want []keydiff.Item, conflicts ...treemerge.Conflict) {
	t.Helper()
	l, c, err := treemerge.Merge(base, ours, theirs)
	if err != api.OK || !slices.Equal(l, want) || !sameConflicts(c, conflicts) {
		t.Errorf("%s: %.300q, %s, %d; want %.300q, %s", what, l, told(c), err, want, told(conflicts))
	}
}

// one is a merge of one file: either its text, or the conflicts, whose names are omitted.
type one struct {
	name, base, ours, theirs string
	want                     string
	conflicts                []treemerge.Conflict
}

// check says what each of the merges must return, alone and among other files.
func check(t *testing.T, l []one) {
	t.Helper()
	for _, x := range l {
		for i := range x.conflicts {
			x.conflicts[i].Name = x.name
		}
		want := files(x.name, x.want)
		if len(x.conflicts) > 0 {
			want = nil
		}
		what := fmt.Sprintf("%s of %.100q, %.100q, %.100q", x.name, x.base, x.ours, x.theirs)
		merges(t, what, files(x.name, x.base), files(x.name, x.ours), files(x.name, x.theirs), want, x.conflicts...)
		if x.name == "" { // nothing can be ahead of it
			continue
		}
		if len(x.conflicts) == 0 {
			want = files("", "o", x.name, x.want, "~", "t")
		}
		merges(t, what+", among others", files("", "b", x.name, x.base), files("", "o", x.name, x.ours), files("", "b", x.name, x.theirs, "~", "t"), want, x.conflicts...)
	}
}

// conflicting returns the conflicts of one kind, an item each.
func conflicting(what int, items ...string) []treemerge.Conflict {
	var l []treemerge.Conflict
	for _, x := range items {
		l = append(l, conflict("", what, x))
	}
	return l
}

// bare is a conflict without items.
func bare(what int) []treemerge.Conflict { return []treemerge.Conflict{{What: what}} }

// P22.1

func TestConflictNumbers(t *testing.T) {
	kinds := []int{treemerge.File, treemerge.Order, treemerge.Key, treemerge.Valid, treemerge.Lines}
	if !slices.Equal(kinds, []int{1, 2, 3, 4, 5}) {
		t.Errorf("%v", kinds)
	}
}

func TestExample(t *testing.T) {
	merges(t, "the example", files("a.merges", ""), files("a.merges", "a b\n"), files("a.merges", "b c\n"), files("a.merges", "a b\nb c\n"))
}

func TestMergeOrder(t *testing.T) {
	right := files("a", "1", "b", "2")
	for what, bad := range map[string][]keydiff.Item{
		"twice":            files("a", "1", "a", "1"),
		"twice, otherwise": files("a.merges", "a b\n", "a.merges", "b c\n"),
		"descending":       files("b", "1", "a", "1"),
		"late":             files("a", "", "b", "", "d", "", "c", ""),
		"by length":        files("9", "", "10", ""),
		"by case":          files("a", "", "B", ""),
	} {
		for _, x := range [][3][]keydiff.Item{{bad, nil, nil}, {nil, bad, nil}, {nil, nil, bad}, {bad, bad, bad}, {right, bad, nil}, {right, nil, bad}, {bad, right, files("a", "other")}} {
			l, c, err := treemerge.Merge(x[0], x[1], x[2])
			if len(l) != 0 || len(c) != 0 || err != api.ErrOrder {
				t.Errorf("%s: %q, %v, %d", what, l, c, err)
			}
		}
	}
}

// What only one side changed, or both alike, is taken, whatever it is.
func TestOneSide(t *testing.T) {
	for _, name := range []string{"", "a", "a.merges", "a.vocab", "a.rules", "a.chat", ".chat", "x y\xff"} {
		for _, base := range []string{none, "", "a b\n", "not valid"} {
			for _, side := range []string{none, "", "b c\n", "1 a\n", "not \xff valid", strings.Repeat("x\n", api.MaxBody)} {
				check(t, []one{{name, base, side, base, side, nil}, {name, base, base, side, side, nil}, {name, base, side, side, side, nil}})
			}
		}
	}
	merges(t, "no files", nil, nil, nil, nil)
	merges(t, "each side others", files("a", "1", "b", "1", "c", "1", "d", "1"), files("a", "2", "b", "1", "c", "1", "e", "2"), files("a", "1", "b", "3", "d", "1", "f", "3"),
		files("a", "2", "b", "3", "e", "2", "f", "3"))
}

// Of several files with conflicts all are told, in the order of their names, and no file is returned.
func TestSeveral(t *testing.T) {
	base := files("a.chat", "1\n2\n3\n", "b", "1", "c.merges", "", "d.rules", "", "e.vocab", "", "f.merges", "a b\nb c\n", "g", "")
	ours := files("a.chat", "x\n2\ny\n", "b", "2", "c.merges", "a b\n", "d.rules", "a 1\nb 1\n", "e.vocab", "1 a\n", "f.merges", "b c\n", "g", "x")
	theirs := files("a.chat", "z\n2\nz\n", "b", "3", "c.merges", "c d\n", "d.rules", "a 2\nb 2\n", "e.vocab", "2 a\n", "f.merges", "a b\nb c\nab c\n", "g", "")
	merges(t, "several", base, ours, theirs, nil,
		conflict("a.chat", treemerge.Lines, "1\n", "x\n", "z\n"), conflict("a.chat", treemerge.Lines, "3\n", "y\n", "z\n"),
		conflict("b", treemerge.File),
		conflict("d.rules", treemerge.Key, "a"), conflict("d.rules", treemerge.Key, "b"),
		conflict("e.vocab", treemerge.Valid, "2 a\n"),
		conflict("f.merges", treemerge.Valid, "ab c\n"))
	at := func(l []keydiff.Item, keys ...string) []keydiff.Item {
		return slices.DeleteFunc(slices.Clone(l), func(x keydiff.Item) bool { return !slices.Contains(keys, x.Key) })
	}
	merges(t, "those without conflicts", at(base, "c.merges", "g"), at(ours, "c.merges", "g"), at(theirs, "c.merges", "g"), files("c.merges", "a b\nc d\n", "g", "x"))
	merges(t, "one that has conflicts", at(base, "c.merges", "e.vocab", "g"), at(ours, "c.merges", "e.vocab", "g"), at(theirs, "c.merges", "e.vocab", "g"), nil,
		conflict("e.vocab", treemerge.Valid, "2 a\n"))
}

// Several files of each kind are merged in one call, each for itself.
func TestSeveralMerged(t *testing.T) {
	merges(t, "several",
		files("a.merges", "", "b.merges", "a b\n", "c.vocab", "", "d.rules", "", "e.chat", "1\n2\n3\n"),
		files("a.merges", "a b\n", "b.merges", "a b\nab c\n", "c.vocab", "1 a\n", "d.rules", "b 1\n", "e.chat", "1\n2\nx\n", "ours", "1"),
		files("a.merges", "b c\n", "b.merges", "x y\na b\n", "c.vocab", "0 b\n", "d.rules", "a 2\n", "e.chat", "y\n2\n3\n", "theirs", "2"),
		files("a.merges", "a b\nb c\n", "b.merges", "x y\na b\nab c\n", "c.vocab", "0 b\n1 a\n", "d.rules", "a 2\nb 1\n", "e.chat", "y\n2\nx\n", "ours", "1", "theirs", "2"))
}

// P22.2

func TestFileConflicts(t *testing.T) {
	file := bare(treemerge.File)
	valid := map[string][3]string{
		"a.merges": {"", "a b\n", "b c\n"},
		"a.vocab":  {"", "1 a\n", "2 b\n"},
		"a.rules":  {"", "a 1\n", "b 2\n"},
		"a.chat":   {"2\n", "1\n2\n", "2\n3\n"},
		".merges":  {"", "a b\n", "b c\n"},
	}
	for name, x := range valid {
		// a side that has no such file
		check(t, []one{{name, x[0], x[1], none, "", file}, {name, x[0], none, x[2], "", file}, {name, x[1], none, "", "", file}})
	}
	long := strings.Repeat("x", api.MaxBody+1)
	for name, bad := range map[string][]string{
		"a.merges": {"a b", "a  b\n", "ab c\n", "a b\na b\n", "\n", "x", long, strings.Repeat("\n", api.MaxItems+1)},
		"a.vocab":  {"1 a", "01 a\n", "2 a\n1 b\n", "1 a\n2 a\n", "a 1\n", long},
		"a.rules":  {"a 1", "A 1\n", "b 1\na 1\n", "a 1\na 1\n", "a\n", long},
		"a.chat":   {long, strings.Repeat("\n", api.MaxBody+1)},
	} {
		x := valid[name]
		for _, s := range bad {
			check(t, []one{{name, s, x[1], x[2], "", file}, {name, x[0], s, x[2], "", file}, {name, x[0], x[1], s, "", file}, {name, s, s + "x", x[2], "", file}})
		}
	}
	// other kinds are those of blobs
	for _, name := range []string{"", "a", "merges", "a.merge", "a.merges2", "a.MERGES", "a.vocab.", "a.rules.txt", "a.chat\x00", "chat"} {
		for _, base := range []string{none, "", "a b\n"} {
			check(t, []one{{name, base, "a c\n", "b c\n", "", file}, {name, base, "\n", "1\n", "", file}})
		}
	}
}

func TestMerges(t *testing.T) {
	order := func(a, b string) []treemerge.Conflict {
		return []treemerge.Conflict{conflict("", treemerge.Order, a, b)}
	}
	check(t, []one{
		{"a.merges", none, "a b\n", "b c\n", "a b\nb c\n", nil},
		{"a.merges", none, "", "b c\n", "b c\n", nil},
		{"a.merges", none, "a b\n", "", "a b\n", nil},
		{"a.merges", "a b\n", "x y\na b\n", "a b\nab c\n", "x y\na b\nab c\n", nil},
		{"a.merges", "a b\nb c\nc d\n", "b c\nc d\n", "a b\nb c\n", "b c\n", nil},
		{"a.merges", "a b\nb c\n", "b c\n", "a b\n", "", nil},
		{"a.merges", "a b\nb c\n", "", "b c\na b\n", "", nil},
		{"a.merges", "a b\nab c\n", "", "a b\nab c\nb c\n", "b c\n", nil},
		{"a.merges", "", "a b\nab c\n", "x y\na b\n", "x y\na b\nab c\n", nil},
		// other orders
		{"a.merges", "a b\nb c\n", "b c\na b\n", "a b\nb c\nc d\n", "", order("b c\n", "a b\n")},
		{"a.merges", none, "a b\nb c\n", "b c\na b\n", "", order("a b\n", "b c\n")},
		{"a.merges", "", "x y\na b\nab c\nb c\n", "a b\nb c\nab c\n", "", order("ab c\n", "b c\n")},
		// no valid list, as one side has dropped what the other one builds upon
		{"a.merges", "a b\nx y\n", "x y\n", "a b\nx y\nab c\n", "", conflicting(treemerge.Valid, "ab c\n")},
		{"a.merges", "a b\nx y\n", "a b\nx y\nx ab\nab c\n", "x y\n", "", conflicting(treemerge.Valid, "x ab\n")},
		{"a.merges", "a b\n", "", "x y\na b\nab ab\nabab a\n", "", conflicting(treemerge.Valid, "ab ab\n")},
	})
}

func TestVocab(t *testing.T) {
	key := func(ids ...string) []treemerge.Conflict { return conflicting(treemerge.Key, ids...) }
	check(t, []one{
		{"a.vocab", none, "1 a\n", "2 b\n", "1 a\n2 b\n", nil},
		{"a.vocab", none, "", "2 b\n", "2 b\n", nil},
		{"a.vocab", "1 a\n", "", "1 a\n2 b\n", "2 b\n", nil},
		{"a.vocab", "1 a\n2 b\n", "1 a\n", "2 b\n", "", nil},
		{"a.vocab", "1 a\n2 b\n", "1 c\n2 b\n", "1 a\n2 d\n", "1 c\n2 d\n", nil},
		{"a.vocab", "1 a\n2 b\n", "1 c\n2 b\n3 a\n", "1 c\n2 b\n4 d\n", "1 c\n2 b\n3 a\n4 d\n", nil},
		// tokens change their places
		{"a.vocab", "1 a\n2 b\n", "1 b\n2 a\n", "1 a\n2 b\n3 c\n", "1 b\n2 a\n3 c\n", nil},
		// the order is that of the numbers, neither that of their digits nor that of the sides
		{"a.vocab", "", "9 a\n100 b\n127 c\n16384 d\n", "10 e\n128 f\n16383 g\n1073741824 h\n", "9 a\n10 e\n100 b\n127 c\n128 f\n16383 g\n16384 d\n1073741824 h\n", nil},
		{"a.vocab", "", "0 a\n", "1073741824 b\n", "0 a\n1073741824 b\n", nil},
		// numbers that both sides changed
		{"a.vocab", "1 a\n", "1 b\n", "1 c\n", "", key("1")},
		{"a.vocab", "1 a\n", "", "1 c\n", "", key("1")},
		{"a.vocab", "1 a\n", "1 b\n", "2 c\n", "", key("1")},
		{"a.vocab", none, "0 a\n", "0 b\n", "", key("0")},
		{"a.vocab", "", "9 a\n10 b\n127 c\n128 d\n16384 e\n1073741824 f\n", "9 b\n10 c\n127 d\n128 e\n16384 f\n1073741824 a\n", "", key("9", "10", "127", "128", "16384", "1073741824")},
		{"a.vocab", "5 a\n7 b\n", "5 c\n6 d\n7 e\n", "5 f\n6 d\n7 b\n8 g\n", "", key("5")},
		// a number for a token that has another one
		{"a.vocab", "", "1 a\n", "2 a\n", "", conflicting(treemerge.Valid, "2 a\n")},
		{"a.vocab", "", "3 a\n", "2 a\n", "", conflicting(treemerge.Valid, "3 a\n")},
		{"a.vocab", "1 a\n5 b\n", "1 a\n5 b\n6 c\n7 d\n", "1 a\n2 d\n3 c\n5 b\n", "", conflicting(treemerge.Valid, "6 c\n")},
		// that comes behind conflicts of numbers
		{"a.vocab", "", "1 a\n3 b\n", "2 a\n3 c\n", "", key("3")},
	})
}

func TestRules(t *testing.T) {
	key := func(names ...string) []treemerge.Conflict { return conflicting(treemerge.Key, names...) }
	check(t, []one{
		{"a.rules", none, "a 1\n", "b 2\n", "a 1\nb 2\n", nil},
		{"a.rules", none, "", "b 2\n", "b 2\n", nil},
		{"a.rules", "", "b 1\nd 1\n", "a 2\nc 2\ne 2\n", "a 2\nb 1\nc 2\nd 1\ne 2\n", nil},
		{"a.rules", "a 1\nb 1\n", "a 2\nb 1\n", "a 1\nb 3\n", "a 2\nb 3\n", nil},
		{"a.rules", "a 1\nb 1\n", "a 1\n", "b 1\n", "", nil},
		{"a.rules", "a 1\n", "a 2\nb 1\n", "a 2\nc 1\n", "a 2\nb 1\nc 1\n", nil},
		{"a.rules", "", "a  \n", "b a b \n", "a  \nb a b \n", nil},
		{"a.rules", "", "- 1\n10 1\n", "9 2\na-b [0-9]+ ?\n", "- 1\n10 1\n9 2\na-b [0-9]+ ?\n", nil},
		{"a.rules", "a 1\n", "a 2\n", "a 3\n", "", key("a")},
		{"a.rules", "a 1\n", "", "a 3\n", "", key("a")},
		{"a.rules", "a 1\n", "a 2\n", "b 1\n", "", key("a")},
		{"a.rules", none, "a 1\n", "a 1 \n", "", key("a")},
		{"a.rules", "b 1\nd 1\n", "10 1\n9 1\nb 2\nc 1\n", "10 2\n9 2\nb 3\nc 1\nd 2\n", "", key("10", "9", "b", "d")},
	})
}

func TestTemplate(t *testing.T) {
	lines := func(l ...string) []treemerge.Conflict {
		var c []treemerge.Conflict
		for x := range slices.Chunk(l, 3) {
			c = append(c, conflict("", treemerge.Lines, x...))
		}
		return c
	}
	check(t, []one{
		{"a.chat", "1\n2\n3\n", "x\n2\n3\n", "1\n2\ny\n", "x\n2\ny\n", nil},
		{"a.chat", "1\n2\n3\n", "2\n3\n", "1\n2\n", "2\n", nil},
		{"a.chat", "1\n2\n3\n", "x\n2\n3\n", "x\n2\ny\n", "x\n2\ny\n", nil},
		{"a.chat", "2", "1\n2", "2", "1\n2", nil},
		{"a.chat", none, "", "1\n", "1\n", nil},
		{"a.chat", "\n\n", "\n\n\n", "x\n\n\n", "x\n\n\n\n", nil},
		{"a.chat", "a\x00\n\xff\r\n", "b\n\xff\r\n", "a\x00\n\xff\r\nz\xfe", "b\n\xff\r\nz\xfe", nil},
		// lines are compared with their newlines, and follow one another as they are
		{"a.chat", "1\n2\n3", "1\n2\n3\n", "x\n2\n3", "x\n2\n3\n", nil},
		{"a.chat", "1\n2", "1\n2\n", "x\n2", "", lines("1\n2", "1\n2\n", "x\n2")},
		{"a.chat", "a\nb\nc\nd", "a\nb\nc\n", "x\nb\nc\nd", "x\nb\nc\n", nil},
		{"a.chat", "a\nb", "a\nx\nb", "a\nbc", "", lines("b", "x\nb", "bc")},
		{"a.chat", "1\nb", "b", "1\nb\n", "", lines("1\nb", "b", "1\nb\n")},
		{"a.chat", "b", "1\nb", "b2", "", lines("b", "1\nb", "b2")},
		{"a.chat", "a\nz", "a\nz\ny\n", "z", "", lines("a\nz", "a\nz\ny\n", "z")},
		// hunks
		{"a.chat", "1\n", "2\n", "3\n", "", lines("1\n", "2\n", "3\n")},
		{"a.chat", none, "2\n", "3\n", "", lines("", "2\n", "3\n")},
		{"a.chat", "1\n", "", "3\n", "", lines("1\n", "", "3\n")},
		{"a.chat", "1", "2\n3", "", "", lines("1", "2\n3", "")},
		{"a.chat", "1\n2\n3\n4\n5\n", "a\nb\n2\nc\n4\nd\n", "e\n2\n3\n4\nf\ng", "", lines("1\n", "a\nb\n", "e\n", "5\n", "d\n", "f\ng")},
		{"a.chat", "1\n2\n", "x\n1\n2\ny\n", "z\n1\n2\nw\n", "", lines("", "x\n", "z\n", "", "y\n", "w\n")},
	})
}
