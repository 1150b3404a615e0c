package graph_test

import (
	"fmt"
	"math/rand"
	"slices"
	"strings"

	"stemma/api"
	"stemma/graph"
)

// model answers as the chapter says, by its definitions alone, however long that takes.
type model map[string]graph.Node

func modelOf(l []graph.Node) model {
	m := model{}
	for _, n := range l {
		m[n.ID] = n
	}
	return m
}

// closure returns, for each node, the nodes that are reachable from it: the parents of what is reachable, till nothing is new.
func (m model) closure() map[string]map[string]bool {
	c := map[string]map[string]bool{}
	for id := range m {
		c[id] = map[string]bool{id: true}
	}
	for grown := true; grown; {
		grown = false
		for _, of := range c {
			for _, x := range sorted(of) {
				for _, p := range m[x].Parents {
					if !of[p] {
						of[p] = true
						grown = true
					}
				}
			}
		}
	}
	return c
}

func sorted(s map[string]bool) []string {
	l := []string{}
	for id := range s {
		l = append(l, id)
	}
	slices.Sort(l)
	return l
}

// wanted returns what New must return for l.
func wanted(l []graph.Node) api.Errno {
	m := modelOf(l)
	if len(m) < len(l) {
		return api.ErrExists
	}
	for _, n := range l {
		for _, p := range n.Parents {
			if _, ok := m[p]; !ok {
				return api.ErrNone
			}
		}
	}
	c := m.closure()
	for _, n := range l {
		for _, p := range n.Parents {
			if c[p][n.ID] {
				return api.ErrOrder
			}
		}
	}
	return api.OK
}

func reach(c map[string]map[string]bool, from []string) []string {
	all := map[string]bool{}
	for _, id := range from {
		for x := range c[id] {
			all[x] = true
		}
	}
	return sorted(all)
}

func bases(c map[string]map[string]bool, a, b string) []string {
	common := map[string]bool{}
	for x := range c[a] {
		if c[b][x] {
			common[x] = true
		}
	}
	best := map[string]bool{}
	for x := range common {
		best[x] = true
		for y := range common {
			if x != y && c[y][x] {
				delete(best, x)
			}
		}
	}
	return sorted(best)
}

func (m model) log(within []string) []string {
	l := []string{}
	for len(l) < len(within) {
		best := -1
		for i, x := range within {
			if slices.Contains(l, x) || m.hasChild(x, within, l) {
				continue
			}
			if best < 0 || m[x].Time > m[within[best]].Time || m[x].Time == m[within[best]].Time && x < within[best] {
				best = i
			}
		}
		l = append(l, within[best])
	}
	return l
}

// hasChild: has x a child within some nodes that is not in done?
func (m model) hasChild(x string, within, done []string) bool {
	for _, c := range within {
		if slices.Contains(m[c].Parents, x) && !slices.Contains(done, c) {
			return true
		}
	}
	return false
}

// same: are both lists the same, be they nil or not?
func same(a, b []string) bool { return slices.Equal(a, b) }

// text shows l, for a test that fails.
func text(l []graph.Node) string {
	var s []string
	for _, n := range l {
		s = append(s, fmt.Sprintf("%q%d%q", n.ID, n.Time, n.Parents))
	}
	return strings.Join(s, " ")
}

// random returns up to n nodes in any order; their parents come before them in an order of its own, so that there is no cycle.
func random(r *rand.Rand, n int) []graph.Node {
	var l []graph.Node
	for i := range r.Intn(n + 1) {
		x := graph.Node{ID: name(r, i), Time: r.Intn(4) - 1}
		for range r.Intn(4) {
			if i > 0 {
				x.Parents = append(x.Parents, l[max(0, i-1-r.Intn(5))].ID)
			}
		}
		l = append(l, x)
	}
	r.Shuffle(len(l), func(i, j int) { l[i], l[j] = l[j], l[i] })
	return l
}

// name returns the name of node i: another one for each i, in no order.
func name(r *rand.Rand, i int) string {
	return []string{"", "\x00", "z", "\xff", "a"}[r.Intn(5)] + fmt.Sprint(i) + []string{"", "\x00", "z"}[r.Intn(3)]
}
