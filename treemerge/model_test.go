package treemerge_test

import (
	"fmt"
	"math/rand"
	"slices"
	"strconv"
	"strings"
	"testing"

	"stemma/api"
	"stemma/keydiff"
	"stemma/rules"
	"stemma/three"
	"stemma/treemerge"
)

// side is a file of a list: its text, and whether it is there.
type side struct {
	text  string
	there bool
}

func sideOf(l []keydiff.Item, name string) side {
	for _, x := range l {
		if x.Key == name {
			return side{x.Value, true}
		}
	}
	return side{}
}

// modelNames are the names of random files, in ascending order.
var modelNames = []string{".chat", "a", "a.chat", "a.merges", "a.rules", "a.vocab", "b.merges", "b.vocab", "z"}

// model is what Merge must return for right lists of such names, by the chapter's words alone.
func model(base, ours, theirs []keydiff.Item) ([]keydiff.Item, []treemerge.Conflict) {
	var l []keydiff.Item
	var conflicts []treemerge.Conflict
	for _, name := range modelNames {
		b, o, t := sideOf(base, name), sideOf(ours, name), sideOf(theirs, name)
		made := side{there: true}
		switch {
		case o == t || t == b:
			made = o
		case o == b:
			made = t
		default:
			var c []treemerge.Conflict
			made.text, c = modelFile(name, b, o, t)
			for _, x := range c {
				conflicts = append(conflicts, treemerge.Conflict{Name: name, What: x.What, Items: x.Items})
			}
		}
		if made.there {
			l = append(l, keydiff.Item{Key: name, Value: made.text})
		}
	}
	if len(conflicts) > 0 {
		return nil, conflicts
	}
	return l, nil
}

// modelFile merges a file of which the three sides differ.
func modelFile(name string, b, o, t side) (string, []treemerge.Conflict) {
	kind := map[string]int{"merges": 1, "vocab": 2, "rules": 3, "chat": 4}[name[strings.LastIndex(name, ".")+1:]]
	if !o.there || !t.there || kind == 0 {
		return "", bare(treemerge.File)
	}
	for _, x := range []side{b, o, t} {
		if _, err := rules.Check(kind, x.text); err != api.OK {
			return "", bare(treemerge.File)
		}
	}
	var text string
	var conflicts []treemerge.Conflict
	bl, ol, tl := split(b.text), split(o.text), split(t.text)
	switch kind {
	case 1:
		l, crossed, _ := three.Lists(bl, ol, tl)
		if len(crossed) == 2 {
			return "", []treemerge.Conflict{conflict("", treemerge.Order, crossed...)}
		}
		text = strings.Join(l, "")
	case 4:
		l, hunks, _ := three.Lines(bl, ol, tl)
		for _, h := range hunks {
			conflicts = append(conflicts, conflict("", treemerge.Lines, strings.Join(h.Base, ""), strings.Join(h.Ours, ""), strings.Join(h.Theirs, "")))
		}
		text = strings.Join(l, "")
	default:
		text, conflicts = modelKeyed(bl, ol, tl, kind == 2)
	}
	if len(conflicts) > 0 {
		return "", conflicts
	}
	if line, err := rules.Check(kind, text); err != api.OK && line == 0 {
		return "", bare(treemerge.Valid)
	} else if err != api.OK {
		return "", conflicting(treemerge.Valid, split(text)[line-1])
	}
	return text, nil
}

// split returns the lines of s, with their newlines.
func split(s string) []string {
	l := strings.SplitAfter(s, "\n")
	if l[len(l)-1] == "" {
		l = l[:len(l)-1]
	}
	return l
}

// modelKeyed merges lines whose first words are their keys: numbers, or names.
func modelKeyed(base, ours, theirs []string, numbers bool) (string, []treemerge.Conflict) {
	key := func(line string) string { return line[:strings.Index(line, " ")] }
	var keys []string
	for _, line := range slices.Concat(base, ours, theirs) {
		if !slices.Contains(keys, key(line)) {
			keys = append(keys, key(line))
		}
	}
	slices.SortFunc(keys, func(a, b string) int {
		if numbers {
			m, _ := strconv.Atoi(a)
			n, _ := strconv.Atoi(b)
			return m - n
		}
		return strings.Compare(a, b)
	})
	// find returns the line of a key, or an empty text.
	find := func(l []string, k string) string {
		if i := slices.IndexFunc(l, func(line string) bool { return key(line) == k }); i >= 0 {
			return l[i]
		}
		return ""
	}
	text := ""
	var conflicts []treemerge.Conflict
	for _, k := range keys {
		switch b, o, t := find(base, k), find(ours, k), find(theirs, k); {
		case o == t || t == b:
			text += o
		case o == b:
			text += t
		default:
			conflicts = append(conflicts, conflict("", treemerge.Key, k))
		}
	}
	return text, conflicts
}

// someLine returns a line as files of a name have them, now and then a wrong one.
func someLine(r *rand.Rand, name string) string {
	letter := func() string { return string([]byte{"abcdefgh"[r.Intn(8)]}) }
	line := ""
	switch name[strings.LastIndex(name, ".")+1:] {
	case "merges":
		parts := []string{letter(), letter(), letter(), letter(), letter(), "ab", "abc"}
		line = parts[r.Intn(7)] + " " + letter()
	case "vocab":
		line = fmt.Sprint([]int{0, 1, 2, 9, 10, 127, 128, 1 << 30}[r.Intn(8)], " ", letter())
	case "rules":
		line = []string{"a", "b", "10", "9", "-", "a-b"}[r.Intn(6)] + " " + letter()
	default:
		line = letter()
	}
	if r.Intn(60) == 0 {
		return line + "?" // without its newline
	}
	return line + "\n"
}

// someText returns the text of a file, most often a valid one.
func someText(r *rand.Rand, name string, lines []string) string {
	valid := func(l []string) bool {
		_, err := rules.Check(rules.Kind(name), strings.Join(l, ""))
		return err == api.OK
	}
	for range r.Intn(5) {
		l := slices.Clone(lines)
		i := r.Intn(len(l) + 1)
		if i < len(l) && r.Intn(2) == 0 {
			x := l[i]
			l = slices.Delete(l, i, i+1)
			if r.Intn(2) == 0 {
				l = slices.Insert(l, r.Intn(len(l)+1), x)
			}
		} else {
			l = slices.Insert(l, i, someLine(r, name))
		}
		if valid(l) || r.Intn(40) == 0 {
			lines = l
		}
	}
	return strings.Join(lines, "")
}

// someFiles returns the files that some changes make of a list.
func someFiles(r *rand.Rand, l []keydiff.Item, most int) []keydiff.Item {
	var made []keydiff.Item
	for _, name := range modelNames {
		x := sideOf(l, name)
		if r.Intn(len(modelNames)) < most {
			x = side{someText(r, name, split(x.text)), r.Intn(12) > 0}
		}
		if x.there {
			made = append(made, keydiff.Item{Key: name, Value: x.text})
		}
	}
	return made
}

// P22.1 to P22.3

func TestRandom(t *testing.T) {
	r := rand.New(rand.NewSource(22))
	seen := map[int]int{}
	byKind := 0 // files that came of both sides
	for range 40000 {
		base := someFiles(r, nil, 6)
		if r.Intn(2) == 0 {
			base = someFiles(r, base, 9)
		}
		most := 1 + r.Intn(9)
		ours, theirs := someFiles(r, base, most), someFiles(r, base, most)
		want, conflicts := model(base, ours, theirs)
		merges(t, "random", base, ours, theirs, want, conflicts...)
		promised(t, base, ours, theirs)
		for _, c := range conflicts {
			seen[c.What]++
		}
		for _, x := range want {
			if y := (side{x.Value, true}); y != sideOf(ours, x.Key) && y != sideOf(theirs, x.Key) {
				byKind++
			}
		}
		if t.Failed() {
			return
		}
	}
	for what := treemerge.File; what <= treemerge.Lines; what++ {
		if seen[what] < 300 {
			t.Errorf("conflicts of each kind: %v", seen)
		}
	}
	if byKind < 1000 {
		t.Errorf("%d files came of both sides", byKind)
	}
}

// promised holds what Merge returns against what is promised of any answer.
func promised(t *testing.T, base, ours, theirs []keydiff.Item) {
	t.Helper()
	l, c, err := treemerge.Merge(base, ours, theirs)
	if err != api.OK || len(l) > 0 && len(c) > 0 || !keydiff.Right(l) {
		t.Errorf("%.300q, %s, %d", l, told(c), err)
	}
	if !slices.IsSortedFunc(c, func(x, y treemerge.Conflict) int { return strings.Compare(x.Name, y.Name) }) {
		t.Errorf("the names do not ascend: %s", told(c))
	}
	if len(c) > 0 {
		return
	}
	for _, name := range modelNames {
		x, b, our, their := sideOf(l, name), sideOf(base, name), sideOf(ours, name), sideOf(theirs, name)
		if their == b && x != our || our == b && x != their {
			t.Errorf("%s: %v, but one side alone changed it: %v, %v, %v", name, x, b, our, their)
		}
		if x == our || x == their {
			continue
		}
		if line, err := rules.Check(rules.Kind(name), x.text); err != api.OK {
			t.Errorf("%s: %q is not valid: %d, %d", name, x.text, line, err)
		}
	}
}
