package graph_test

import (
	"math"
	"math/rand"
	"slices"
	"strconv"
	"strings"
	"sync"
	"testing"

	"stemma/api"
	"stemma/graph"
)

// made returns the graph of l, which must be one.
func made(t *testing.T, l []graph.Node) *graph.Graph {
	t.Helper()
	g, err := graph.New(l)
	if err != api.OK || g == nil {
		t.Fatalf("New(%s): %v, %d", text(l), g, err)
	}
	return g
}

// nodes returns the nodes that s tells: an ID, its time in digits, a colon and its parents, each of a letter; apart by spaces.
func nodes(s string) []graph.Node {
	var l []graph.Node
	for _, f := range strings.Fields(s) {
		head, parents, _ := strings.Cut(f, ":")
		n := graph.Node{ID: head[:1]}
		n.Time, _ = strconv.Atoi(head[1:])
		if parents != "" {
			n.Parents = strings.Split(parents, "")
		}
		l = append(l, n)
	}
	return l
}

// letters returns each letter of s as a text.
func letters(s string) []string {
	if s == "" {
		return nil
	}
	return strings.Split(s, "")
}

// P18.1

func TestNew(t *testing.T) {
	for _, x := range []struct {
		l    string
		want api.Errno
	}{
		{"", api.OK},
		{"a", api.OK},
		{"a b:a c:a d:bc", api.OK},
		{"d:bc c:a b:a a", api.OK},
		{"a b:aa c:aba", api.OK},
		{"a b c", api.OK},
		{"a b c:a d:b e:cd f:dc", api.OK},
		{"a a", api.ErrExists},
		{"a1 a2", api.ErrExists},
		{"a b:a c:b b:c", api.ErrExists},
		{"a b c d e a", api.ErrExists},
		{"b:a", api.ErrNone},
		{"a b:ac", api.ErrNone},
		{"a b:ca", api.ErrNone},
		{"c:d a b:a", api.ErrNone},
		{"a:a", api.ErrOrder},
		{"a b:ab", api.ErrOrder},
		{"a:b b:a", api.ErrOrder},
		{"a:b b:c c:a", api.ErrOrder},
		{"a b:ad c:b d:c e:d", api.ErrOrder},
		{"a b:a c:bd d:c", api.ErrOrder},
		{"a b:a c:b x:y y:z z:x", api.ErrOrder},
		{"x:xa a", api.ErrOrder},
		// of several errors the one that the chapter mentions first
		{"b:x a a", api.ErrExists},
		{"a:a a:a", api.ErrExists},
		{"a:a b:x", api.ErrNone},
		{"b:x a:a", api.ErrNone},
		{"a:x a:a", api.ErrExists},
		{"a:b b:ax", api.ErrNone},
	} {
		g, err := graph.New(nodes(x.l))
		if err != x.want || (g == nil) != (x.want != api.OK) {
			t.Errorf("New(%s): %v, %d, want %d", x.l, g, err, x.want)
		}
	}
}

func TestNewAnyID(t *testing.T) {
	l := []graph.Node{{ID: "", Parents: []string{"\x00"}}, {ID: "\x00", Parents: []string{strings.Repeat("x", 1000), "\xff\xfe"}}, {ID: strings.Repeat("x", 1000)}, {ID: "\xff\xfe"}}
	g := made(t, l)
	for _, n := range l {
		if !g.Has(n.ID) {
			t.Errorf("%.20q is none", n.ID)
		}
	}
	if want := []string{"", "\x00", l[2].ID, "\xff\xfe"}; !same(g.Reach(""), want) || !same(g.Log(""), want) {
		t.Errorf("Reach: %.20q; Log: %.20q", g.Reach(""), g.Log(""))
	}
	if _, err := graph.New([]graph.Node{{ID: ""}, {ID: ""}}); err != api.ErrExists {
		t.Error(err)
	}
	if _, err := graph.New([]graph.Node{{ID: "a", Parents: []string{""}}}); err != api.ErrNone {
		t.Error(err)
	}
	if _, err := graph.New([]graph.Node{{ID: "", Parents: []string{""}}}); err != api.ErrOrder {
		t.Error(err)
	}
}

func TestHas(t *testing.T) {
	g := made(t, nodes("a b:a c:a"))
	for id, want := range map[string]bool{"a": true, "b": true, "c": true, "d": false, "": false, "A": false, "ab": false, "a\x00": false} {
		if g.Has(id) != want {
			t.Errorf("Has(%q): %v", id, !want)
		}
	}
	if g = made(t, nil); g.Has("") || g.Has("a") {
		t.Error("a graph without nodes has one")
	}
}

func TestNewRandom(t *testing.T) {
	r := rand.New(rand.NewSource(18))
	seen := map[api.Errno]int{}
	for range 20000 {
		var l []graph.Node
		for range r.Intn(6) {
			n := graph.Node{ID: string(rune('a' + r.Intn(8)))}
			for range r.Intn(3) {
				n.Parents = append(n.Parents, string(rune('a'+r.Intn(8))))
			}
			l = append(l, n)
		}
		g, err := graph.New(l)
		want := wanted(l)
		seen[want]++
		if err != want || (g == nil) != (want != api.OK) {
			t.Fatalf("New(%s): %v, %d, want %d", text(l), g, err, want)
		}
	}
	for _, e := range []api.Errno{api.OK, api.ErrExists, api.ErrNone, api.ErrOrder} {
		if seen[e] < 100 {
			t.Errorf("%d only %d times", e, seen[e])
		}
	}
}

// P18.2

func TestReach(t *testing.T) {
	g := made(t, nodes("e:d d:bc c:a b:a a y:x x"))
	for from, want := range map[string]string{
		"": "", "a": "a", "b": "ab", "c": "ac", "d": "abcd", "e": "abcde", "x": "x", "y": "xy",
		"bc": "abc", "cb": "abc", "aa": "a", "dd": "abcd", "yb": "abxy", "by": "abxy", "eadcb": "abcde",
		"z": "", "zz": "", "za": "a", "az": "a", "bzc": "abc",
	} {
		if l := g.Reach(letters(from)...); !same(l, letters(want)) {
			t.Errorf("Reach(%s): %q", from, l)
		}
	}
	if l := made(t, nil).Reach("a", ""); len(l) != 0 {
		t.Errorf("of no nodes: %q", l)
	}
}

// The order is that of the bytes, not that of runes or of numbers.
func TestReachOrder(t *testing.T) {
	l := []graph.Node{{ID: "top", Parents: []string{"10", "9", "\xff", "é", "Z", "a", "ab", "a\x00", ""}}}
	for _, id := range l[0].Parents {
		l = append(l, graph.Node{ID: id, Time: len(l)})
	}
	if s := made(t, l).Reach("top"); !same(s, []string{"", "10", "9", "Z", "a", "a\x00", "ab", "top", "é", "\xff"}) {
		t.Errorf("%q", s)
	}
}

func TestAncestor(t *testing.T) {
	g := made(t, nodes("e:d d:bc c:a b:a a y:x x"))
	above := map[string]string{"a": "a", "b": "ab", "c": "ac", "d": "abcd", "e": "abcde", "x": "x", "y": "xy", "z": ""}
	for b, all := range above {
		for a := range above {
			if g.Ancestor(a, b) != strings.Contains(all, a) {
				t.Errorf("Ancestor(%s, %s): %v", a, b, g.Ancestor(a, b))
			}
		}
	}
	if g.Ancestor("", "") || g.Ancestor("", "a") || g.Ancestor("a", "") {
		t.Error("an ancestor that is no node")
	}
}

// P18.3

func TestBases(t *testing.T) {
	for l, cases := range map[string]map[string]string{
		"a b:a c:a d:bc":                {"bc": "a", "cb": "a", "dd": "d", "da": "a", "ad": "a", "bd": "b", "aa": "a", "az": "", "za": "", "zz": ""},
		"a b c:ab d:ab":                 {"cd": "ab", "dc": "ab", "ab": "", "ac": "a", "cb": "b"},
		"a b c:ba d:ba":                 {"cd": "ab"},
		"a b:a c:b d:ca e:ba":           {"de": "b", "ed": "b"},
		"a b:a c:a d:bc e:bc f:de g:ed": {"de": "bc", "fg": "de", "fd": "d", "ge": "e"},
		"a b:a c:b d:c e:a f:ec g:d":    {"fg": "c", "eg": "a", "fe": "e"},
		"a x":                           {"ax": "", "xa": ""},
		"r a:r b:r x:a y:ab z:xb":       {"yz": "ab", "xy": "a", "zx": "x", "zb": "b"},
		"a b:aa c:aa":                   {"bc": "a"},
	} {
		g := made(t, nodes(l))
		for of, want := range cases {
			if s := g.Bases(of[:1], of[1:]); !same(s, letters(want)) {
				t.Errorf("%s: Bases(%s): %q, want %s", l, of, s, want)
			}
		}
	}
}

// P18.4

func TestLog(t *testing.T) {
	for l, cases := range map[string]map[string]string{
		"a b:a c:a d:bc":             {"d": "dbca", "bc": "bca", "cb": "bca", "b": "ba", "a": "a", "": "", "z": "", "zd": "dbca", "dd": "dbca", "ad": "dbca"},
		"a0 b1:a c2:a d3:bc":         {"d": "dcba", "bc": "cba"},
		"a3 b2:a c1:a d0:bc":         {"d": "dbca", "cb": "bca"},
		"a9 b1:a c5:a d0:bc x3":      {"dx": "xdcba", "xd": "xdcba", "bx": "xba", "ax": "ax"},
		"a b:aa c:ab d:aabbcc":       {"d": "dcba"},
		"a1 b2:a c7:b x5 y6:x z6:y":  {"cz": "czyxba"},
		"a-1 b-2 c-3 d:abc":          {"d": "dabc"},
		"a b c d e":                  {"edcba": "abcde", "ec": "ce"},
		"a5 b5 c7 d7 e6":             {"edcba": "cdeab"},
		"a1 b9:a c2:b d3:a e1:cd":    {"e": "edcba", "cd": "dcba"},
		"a b8:a c8:a d1:b e1:c f:ed": {"f": "fdbeca"},
	} {
		g := made(t, nodes(l))
		for from, want := range cases {
			if s := g.Log(letters(from)...); !same(s, letters(want)) {
				t.Errorf("%s: Log(%s): %q, want %s", l, from, s, want)
			}
		}
	}
}

// A child that is not within Reach does not matter.
func TestLogWithin(t *testing.T) {
	g := made(t, nodes("a1 b2:a c3 d0:ac"))
	if s := g.Log("b", "c"); !same(s, letters("cba")) {
		t.Errorf("%q", s)
	}
}

func TestLogTimes(t *testing.T) {
	g := made(t, []graph.Node{{ID: "a", Time: math.MinInt}, {ID: "b", Time: math.MaxInt}, {ID: "c", Time: -1}, {ID: "d", Time: 1}, {ID: "e"}})
	if s := g.Log("a", "b", "c", "d", "e"); !same(s, letters("bdeca")) {
		t.Errorf("%q", s)
	}
}

// P18.2 to P18.4

func TestRandom(t *testing.T) {
	r := rand.New(rand.NewSource(184))
	for range 3000 {
		l := random(r, 12)
		g, m := made(t, l), modelOf(l)
		c := m.closure()
		ids := []string{"none"}
		for _, n := range l {
			ids = append(ids, n.ID)
		}
		a, b := ids[r.Intn(len(ids))], ids[r.Intn(len(ids))]
		if s := g.Bases(a, b); !same(s, bases(c, a, b)) {
			t.Fatalf("%s: Bases(%q, %q): %q", text(l), a, b, s)
		}
		if ok := g.Ancestor(a, b); ok != c[b][a] {
			t.Fatalf("%s: Ancestor(%q, %q): %v", text(l), a, b, ok)
		}
		var from []string
		for range r.Intn(4) {
			from = append(from, ids[r.Intn(len(ids))])
		}
		want := reach(c, from)
		if s := g.Reach(from...); !same(s, want) {
			t.Fatalf("%s: Reach(%q): %q", text(l), from, s)
		}
		if s := g.Log(from...); !same(s, m.log(want)) {
			t.Fatalf("%s: Log(%q): %q", text(l), from, s)
		}
	}
}

// Long lines of nodes, and nodes with many parents and children, take neither depth nor long.
func TestLarge(t *testing.T) {
	const n = 200000
	l := []graph.Node{{ID: "0000000"}}
	for i := 1; i < n; i++ {
		l = append(l, graph.Node{ID: key(i), Parents: []string{key(i - 1)}, Time: -i})
	}
	g := made(t, l)
	s := g.Log(key(n - 1))
	slices.Reverse(s)
	if up := g.Reach(key(n - 1)); len(up) != n || !slices.IsSorted(up) || !same(s, up) {
		t.Error("a line")
	}
	if !g.Ancestor(key(0), key(n-1)) || !same(g.Bases(key(n/2), key(n-1)), []string{key(n / 2)}) {
		t.Error("ends of a line")
	}
	l[0].Parents = []string{key(n - 1)}
	if g, err := graph.New(l); g != nil || err != api.ErrOrder {
		t.Error("a ring", err)
	}
	wide := []graph.Node{{ID: "top"}, {ID: "low"}}
	for i := range n {
		wide[0].Parents = append(wide[0].Parents, key(i))
		wide = append(wide, graph.Node{ID: key(i), Parents: []string{"low"}})
	}
	g = made(t, wide)
	if s := g.Log("top"); len(s) != n+2 || s[0] != "top" || s[1] != key(0) || s[n] != key(n-1) || s[n+1] != "low" {
		t.Error("many children and parents")
	}
}

func key(i int) string {
	s := strconv.Itoa(i)
	return strings.Repeat("0", 7-len(s)) + s
}

// What does not depend on one promise alone

func TestNil(t *testing.T) {
	var none *graph.Graph
	for _, g := range []*graph.Graph{none, {}} {
		if g.Has("") || g.Has("a") || g.Ancestor("", "") || g.Ancestor("a", "a") {
			t.Error("there is a node")
		}
		if len(g.Reach()) != 0 || len(g.Reach("", "a")) != 0 || len(g.Log()) != 0 || len(g.Log("", "a")) != 0 || len(g.Bases("", "")) != 0 || len(g.Bases("a", "a")) != 0 {
			t.Error("a list is not empty")
		}
	}
}

// Arguments stay as they are, their spare capacity too, and a graph keeps nothing of them.
func TestOwnMemory(t *testing.T) {
	parents := append(make([]string, 0, 8), "b", "a")
	l := append(make([]graph.Node, 0, 8), graph.Node{ID: "c", Parents: parents}, graph.Node{ID: "b", Time: 2}, graph.Node{ID: "a", Time: 1})
	from := append(make([]string, 0, 8), "c", "a", "c")
	g := made(t, l)
	for range 2 {
		if !same(g.Reach(from...), letters("abc")) || !same(g.Log(from...), letters("cba")) || !same(g.Bases("c", "b"), letters("b")) {
			t.Fatal("an answer has changed")
		}
		for _, s := range [][]string{g.Reach(from...), g.Log(from...), g.Bases("c", "b")} {
			s = s[:cap(s)]
			for i := range s {
				s[i] = "changed"
			}
		}
		if !same(from[:4], []string{"c", "a", "c", ""}) || !same(parents[:3], []string{"b", "a", ""}) || l[:4][3].ID != "" || l[0].ID != "c" {
			t.Fatal("an argument has changed")
		}
		parents[0], parents[1], l[1].ID = "x", "y", "z"
		parents = append(make([]string, 0, 8), "b", "a")
		l = append(make([]graph.Node, 0, 8), graph.Node{ID: "c", Parents: parents}, graph.Node{ID: "b", Time: 2}, graph.Node{ID: "a", Time: 1})
	}
}

func TestSeveralAsk(t *testing.T) {
	g := made(t, nodes("a b:a c:a d:bc e:bc"))
	var wg sync.WaitGroup
	for range 8 {
		wg.Add(1)
		go func() {
			defer wg.Done()
			for range 100 {
				if !g.Has("a") || !g.Ancestor("a", "e") || !same(g.Bases("d", "e"), letters("bc")) || !same(g.Reach("d"), letters("abcd")) || !same(g.Log("e"), letters("ebca")) {
					t.Error("another answer")
					return
				}
			}
		}()
	}
	wg.Wait()
}
