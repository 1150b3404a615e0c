package three_test

import (
	"fmt"
	"math/rand"
	"slices"

	"stemma/api"
	"stemma/listdiff"
	"stemma/three"
)

// lists is what Lists must return, by the chapter's words alone.
func lists(base, ours, theirs []string) (made, crossed []string, err api.Errno) {
	for _, l := range [][]string{base, ours, theirs} {
		if len(l) > api.MaxItems {
			return nil, nil, api.ErrLong
		}
	}
	for _, l := range [][]string{base, ours, theirs} {
		for i := range l {
			if slices.Contains(l[:i], l[i]) {
				return nil, nil, api.ErrExists
			}
		}
	}
	if slices.Equal(ours, theirs) || slices.Equal(theirs, base) {
		return ours, nil, api.OK
	}
	if slices.Equal(ours, base) {
		return theirs, nil, api.OK
	}
	o, t := stay(base, ours, theirs), stay(base, theirs, ours)
	for len(o) > 0 && len(t) > 0 {
		if o[0] == t[0] {
			made, o, t = append(made, o[0]), o[1:], t[1:]
		} else if !slices.Contains(t, o[0]) {
			made, o = append(made, o[0]), o[1:]
		} else if !slices.Contains(o, t[0]) {
			made, t = append(made, t[0]), t[1:]
		} else {
			return nil, []string{o[0], t[0]}, api.OK
		}
	}
	return append(append(made, o...), t...), nil, api.OK
}

// stay returns the items of l that remain.
func stay(base, l, other []string) []string {
	var s []string
	for _, x := range l {
		if slices.Contains(other, x) || !slices.Contains(base, x) {
			s = append(s, x)
		}
	}
	return s
}

// lines is what Lines must return, by the chapter's words alone, for lists that are short enough.
func lines(base, ours, theirs []string) (made []string, hunks []three.Hunk) {
	inOurs, inTheirs := kept(base, ours), kept(base, theirs)
	// Each fixed item by its place in the three lists, and one behind the end of each.
	var fixed [][3]int
	for i := range base {
		if o, ok := inOurs[i]; ok {
			if t, ok := inTheirs[i]; ok {
				fixed = append(fixed, [3]int{i, o, t})
			}
		}
	}
	fixed = append(fixed, [3]int{len(base), len(ours), len(theirs)})
	from := [3]int{}
	for _, f := range fixed {
		b, o, t := base[from[0]:f[0]], ours[from[1]:f[1]], theirs[from[2]:f[2]]
		if slices.Equal(o, t) {
			made = append(made, o...)
		} else if slices.Equal(t, b) {
			made = append(made, o...)
		} else if slices.Equal(o, b) {
			made = append(made, t...)
		} else {
			hunks = append(hunks, three.Hunk{Base: b, Ours: o, Theirs: t})
		}
		if f[0] < len(base) {
			made = append(made, base[f[0]])
		}
		from = [3]int{f[0] + 1, f[1] + 1, f[2] + 1}
	}
	if len(hunks) > 0 {
		return nil, hunks
	}
	return made, nil
}

// kept returns the indices in a of the items that the edits from a to b keep, with their indices in b.
func kept(a, b []string) map[int]int {
	l, _ := listdiff.Diff(a, b)
	at := map[int]int{}
	i, j := 0, 0
	for _, e := range l {
		if e.Op == listdiff.Keep {
			at[i] = j
		}
		if e.Op != listdiff.Add {
			i++
		}
		if e.Op != listdiff.Drop {
			j++
		}
	}
	return at
}

// ordered: do any two items of l that are both in side have the order of side?
func ordered(l, side []string) bool {
	last := -1
	for _, x := range l {
		if at := slices.Index(side, x); at >= 0 {
			if at < last {
				return false
			}
			last = at
		}
	}
	return true
}

func sameHunks(a, b []three.Hunk) bool {
	return slices.EqualFunc(a, b, func(x, y three.Hunk) bool {
		return slices.Equal(x.Base, y.Base) && slices.Equal(x.Ours, y.Ours) && slices.Equal(x.Theirs, y.Theirs)
	})
}

// some returns up to n items, none twice, in any order.
func some(r *rand.Rand, n int) []string {
	l := []string{"", "a", "b", "\x00", "\xff", "ab", "c", "d", "e"}[:n]
	l = slices.Clone(l)
	r.Shuffle(n, func(i, j int) { l[i], l[j] = l[j], l[i] })
	return l[:r.Intn(n+1)]
}

// changed returns l with up to n of its items removed, moved, or new.
func changed(r *rand.Rand, l []string, n int, item func() string) []string {
	l = slices.Clone(l)
	for range r.Intn(n + 1) {
		i := r.Intn(len(l) + 1)
		switch r.Intn(4) {
		case 0:
			l = slices.Delete(l, i, min(i+1, len(l)))
		case 1:
			if i < len(l) {
				x := l[i]
				l = slices.Delete(l, i, i+1)
				l = slices.Insert(l, r.Intn(len(l)+1), x)
			}
		default:
			l = slices.Insert(l, i, item())
		}
	}
	return l
}

// once returns l without the items that came before in it.
func once(l []string) []string {
	var s []string
	for _, x := range l {
		if !slices.Contains(s, x) {
			s = append(s, x)
		}
	}
	return s
}

// numbers returns the numbers from first on, n of them, as items.
func numbers(first, n int) []string {
	var l []string
	for i := range n {
		l = append(l, fmt.Sprint(first+i))
	}
	return l
}
