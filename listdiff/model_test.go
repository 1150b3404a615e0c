package listdiff_test

import (
	"fmt"
	"math/rand"

	"stemma/listdiff"
)

// model answers as the chapter says, by its definitions alone, and remembers what C was.
type model struct {
	a, b []string
	c    map[[2]int]int
}

func modelOf(a, b []string) model { return model{a, b, map[[2]int]int{}} }

// C is the chapter's.
func (m model) C(i, j int) int {
	if i >= len(m.a) || j >= len(m.b) {
		return 0
	}
	at := [2]int{i, j}
	n, ok := m.c[at]
	if !ok {
		if m.a[i] == m.b[j] {
			n = 1 + m.C(i+1, j+1)
		} else {
			n = max(m.C(i+1, j), m.C(i, j+1))
		}
		m.c[at] = n
	}
	return n
}

// edits returns what Diff must return, and what Match must.
func (m model) edits() (l []listdiff.Edit, match []int) {
	for i, j := 0, 0; ; {
		hasA, hasB := i < len(m.a), j < len(m.b)
		switch {
		case !hasA && !hasB:
			return l, match
		case hasA && hasB && m.a[i] == m.b[j]:
			l = append(l, listdiff.Edit{Op: 0, Item: m.a[i]})
			match = append(match, j)
			i, j = i+1, j+1
		case hasA && (!hasB || m.C(i+1, j) >= m.C(i, j+1)):
			l = append(l, listdiff.Edit{Op: 1, Item: m.a[i]})
			match = append(match, -1)
			i++
		default:
			l = append(l, listdiff.Edit{Op: 2, Item: m.b[j]})
			j++
		}
	}
}

// longest returns how many items a and b have in common at most, by trying which of a's items are left out.
func longest(a, b []string) int {
	best := 0
	for chosen := range 1 << len(a) {
		n, j := 0, 0
		for i, s := range a {
			if chosen>>i&1 == 0 {
				continue
			}
			for j < len(b) && b[j] != s {
				j++
			}
			if j == len(b) {
				n = -1
				break
			}
			n, j = n+1, j+1
		}
		best = max(best, n)
	}
	return best
}

// shifts returns what Shifts must return.
func shifts(a, b []string) []listdiff.Shift {
	var l []listdiff.Shift
	for j, s := range b {
		inA, inB := places(a, s), places(b, s)
		if len(inA) == 1 && len(inB) == 1 && inA[0] != j {
			l = append(l, listdiff.Shift{Item: s, From: inA[0], To: j})
		}
	}
	return l
}

func places(l []string, s string) []int {
	var p []int
	for i, x := range l {
		if x == s {
			p = append(p, i)
		}
	}
	return p
}

// random returns up to n items, each of one of kinds.
func random(r *rand.Rand, n, kinds int) []string {
	var l []string
	for range r.Intn(n + 1) {
		l = append(l, []string{"", "a", "b", "\x00", "\xff", "ab", "long\n", "c"}[r.Intn(kinds)])
	}
	return l
}

// changed returns a with up to n of its items removed, moved, doubled or replaced.
func changed(r *rand.Rand, a []string, n int) []string {
	b := append([]string{}, a...)
	for range r.Intn(n + 1) {
		i := r.Intn(len(b) + 1)
		switch r.Intn(3) {
		case 0:
			b = append(b[:i:i], append([]string{fmt.Sprint(r.Intn(9))}, b[i:]...)...)
		case 1:
			b = append(b[:i:i], b[min(i+1, len(b)):]...)
		default:
			b = append(b[i:len(b):len(b)], b[:i]...)
		}
	}
	return b
}
