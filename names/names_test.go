package names_test

import (
	"fmt"
	"regexp"
	"slices"
	"strings"
	"testing"

	"stemma/names"
)

// id returns an ID of one byte.
func id(c byte) string { return strings.Repeat(string([]byte{c}), 32) }

// same reports whether two tables are equal, where an empty list may be nil.
func same(a, b names.Table) bool {
	return a.Head == b.Head && slices.Equal(a.Refs, b.Refs) && slices.Equal(a.Log, b.Log)
}

// show returns how a table begins.
func show(t names.Table) string { return fmt.Sprintf("%.600q", fmt.Sprint(t)) }

// some is a table.
func some() names.Table {
	return names.Table{
		Refs: []names.Ref{{"heads/a", id(1)}, {"heads/a-b", id(2)}, {"heads/a/b", id(3)}, {"heads/main", id(1)}, {"tags/v1", id(4)}},
		Head: "heads/main",
		Log:  []names.Update{{"heads/gone", "", id(9)}, {"heads/gone", id(9), ""}, {"heads/main", id(8), id(1)}, {"tags/v1", "", id(4)}},
	}
}

// P16.1

// rule is that of a valid name, whatever its length.
var rule = regexp.MustCompile(`^(heads|tags)(/[a-z0-9_-]+(\.[a-z0-9_-]+)*)+$`)

// checkName holds Good and Branch against what they must answer.
func checkName(t *testing.T, name string, want bool) {
	t.Helper()
	if names.Good(name) != want {
		t.Errorf("Good(%q): %v", name, !want)
	}
	if branch := want && name[0] == 'h'; names.Branch(name) != branch {
		t.Errorf("Branch(%q): %v", name, !branch)
	}
}

func TestGood(t *testing.T) {
	for _, name := range []string{
		"heads/main", "tags/v1", "heads/a/b.c", "heads/a", "heads/-", "heads/_", "heads/0", "heads/a.b.c/d.e", "heads/a/b/c/d/e/f",
		"heads/heads", "heads/tags", "heads/heads/a", "heads/tags/a", "tags/heads", "tags/heads/a", "tags/tags", "tags/0.1.2", "heads/-.-",
	} {
		checkName(t, name, true)
	}
	for _, name := range []string{
		"", "/", "a", "heads", "tags", "heads/", "tags/", "/heads/a", "heads//a", "heads/a/", "heads/a//b", "heads/a//", "//", "heads//",
		"head/a", "tag/a", "headsa", "heads.a", "headss/a", "tagss/a", "xheads/a", "refs/heads/a", "Heads/a", "HEADS/a", "Tags/a", " heads/a",
		"heads/..", "heads/.", "heads/a..b", "heads/.a", "heads/a.", "heads/a/.b", "heads/a./b", "heads/a/b.", "heads/a...b", "heads/a/..", "heads/./a",
		"heads/A", "heads/aB", "heads/a b", "heads/a\n", "heads/a\x00", "heads/\x00", "heads/a\\b", "heads/a~", "heads/a^", "heads/a:b", "heads/a@b",
		"heads/\xff", "heads/a\xff", "heads/é", "heads/aéb", "heads/a\xe2\x80\x8b", "heads/a\u212a", "heads/\uff41", "h\x00eads/a", "tags/a/", "tags//",
	} {
		checkName(t, name, false)
	}
}

func TestGoodBytes(t *testing.T) {
	for b := range 256 {
		c := byte(b)
		inside := c >= 'a' && c <= 'z' || c >= '0' && c <= '9' || c == '-' || c == '_'
		s := string([]byte{c})
		for _, kind := range []string{"heads/", "tags/"} {
			checkName(t, kind+s, inside)
			checkName(t, kind+s+"z", inside)
			checkName(t, kind+"z"+s, inside)
			checkName(t, kind+"z/"+s, inside)
			checkName(t, kind+s+"/z", inside)
			checkName(t, kind+"z"+s+"z", inside || c == '.' || c == '/')
		}
		checkName(t, "heads"+s+"a", c == '/')
		checkName(t, "tags"+s+"a", c == '/')
	}
}

// Every short text of some bytes is a name, or is none, as the rule says.
func TestGoodShort(t *testing.T) {
	level := []string{""}
	for range 7 {
		var next []string
		for _, s := range level {
			for _, kind := range []string{"heads/", "tags/", "heads", ""} {
				checkName(t, kind+s, rule.MatchString(kind+s))
			}
			for _, c := range []string{"a", "9", ".", "/", "A"} {
				next = append(next, s+c)
			}
		}
		level = next
	}
}

func TestGoodLengths(t *testing.T) {
	for n := range 200 {
		for _, kind := range []string{"heads/", "tags/"} {
			checkName(t, kind+strings.Repeat("a", n), n >= 1 && len(kind)+n <= 64)
			checkName(t, kind+strings.Repeat("a/", n)+"b", len(kind)+2*n+1 <= 64)
			checkName(t, kind+strings.Repeat("a.", n)+"b", len(kind)+2*n+1 <= 64)
		}
	}
	checkName(t, "heads/"+strings.Repeat("a", 1<<20), false)
}

func TestGet(t *testing.T) {
	x := some()
	for _, r := range x.Refs {
		if s, ok := x.Get(r.Name); s != r.ID || !ok {
			t.Errorf("Get(%s): %x, %v", r.Name, s, ok)
		}
	}
	for _, name := range []string{"", "a", "heads", "heads/", "heads/A", "heads/a-", "heads/a/", "heads/a0", "heads/b", "heads/mai", "heads/main0", "tags/v", "tags/v10", "z", "\xff", "heads/gone"} {
		if s, ok := x.Get(name); s != "" || ok {
			t.Errorf("Get(%q): %x, %v", name, s, ok)
		}
	}
	for _, name := range []string{"", "heads/main"} {
		if s, ok := (names.Table{Head: "heads/main"}).Get(name); s != "" || ok {
			t.Errorf("Get(%q) of no references: %x, %v", name, s, ok)
		}
	}
	if !same(x, some()) {
		t.Error("Get has changed the table")
	}
	var many names.Table
	for i := range 1000 {
		many.Refs = append(many.Refs, names.Ref{Name: fmt.Sprintf("heads/%04d", 2*i), ID: fmt.Sprintf("%032d", i)})
	}
	for i := range 2000 {
		s, ok := many.Get(fmt.Sprintf("heads/%04d", i))
		if ok != (i%2 == 0) || ok && s != fmt.Sprintf("%032d", i/2) {
			t.Errorf("Get of %d: %q, %v", i, s, ok)
		}
	}
}

// P16.3

func TestKnown(t *testing.T) {
	for _, c := range []struct {
		table names.Table
		want  []string
	}{
		{names.Table{}, nil},
		{names.Table{Head: "heads/main"}, nil},
		{names.Table{Refs: []names.Ref{{"heads/a", id(2)}, {"heads/b", id(1)}}}, []string{id(1), id(2)}},
		{names.Table{Refs: []names.Ref{{"heads/a", id(2)}, {"heads/b", id(2)}}}, []string{id(2)}},
		{names.Table{Log: []names.Update{{"heads/a", "", id(5)}}}, []string{id(5)}},
		{names.Table{Log: []names.Update{{"heads/a", id(5), ""}}}, []string{id(5)}},
		{names.Table{Log: []names.Update{{"heads/a", id(0xff), id(0)}, {"heads/b", id(0x80), id(0x7f)}}}, []string{id(0), id(0x7f), id(0x80), id(0xff)}},
		{some(), []string{id(1), id(2), id(3), id(4), id(8), id(9)}},
	} {
		l := c.table.Known()
		if !slices.Equal(l, c.want) {
			t.Errorf("Known of %s: %x, want %x", show(c.table), l, c.want)
		}
	}
}

func TestKnownIsNew(t *testing.T) {
	x := some()
	l := x.Known()
	want := slices.Clone(l)
	for i := range l {
		l[i] = "changed"
	}
	if !same(x, some()) || !slices.Equal(x.Known(), want) {
		t.Error("what Known returned is the table's")
	}
}
