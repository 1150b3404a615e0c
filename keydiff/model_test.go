package keydiff_test

import (
	"math/rand"
	"slices"

	"stemma/api"
	"stemma/keydiff"
)

// sideOf returns the Side of l for a key, as the chapter defines it.
func sideOf(l []keydiff.Item, key string) keydiff.Side {
	for _, x := range l {
		if x.Key == key {
			return keydiff.Side{Value: x.Value, There: true}
		}
	}
	return keydiff.Side{}
}

// right is what Right must return: each pair of items is compared, not only neighbours.
func right(l []keydiff.Item) bool {
	for i := range l {
		for j := range i {
			if l[j].Key >= l[i].Key {
				return false
			}
		}
	}
	return true
}

// rising is right for the keys of changes.
func rising(l []keydiff.Change) bool {
	var of []keydiff.Item
	for _, c := range l {
		of = append(of, keydiff.Item{Key: c.Key})
	}
	return right(of)
}

// allKeys are the keys that random lists have, in ascending bytewise order.
var allKeys = []string{"", "\x00", "10", "9", "A", "a", "a\x00", "aa", "b", "é", "\xff"}

// diff is what Diff must return for keyed lists whose keys are among allKeys.
func diff(a, b []keydiff.Item) []keydiff.Change {
	var l []keydiff.Change
	for _, k := range allKeys {
		if sideOf(a, k) != sideOf(b, k) {
			l = append(l, keydiff.Change{Key: k, Old: sideOf(a, k), New: sideOf(b, k)})
		}
	}
	return l
}

// apply is what Apply must return.
func apply(a []keydiff.Item, l []keydiff.Change) ([]keydiff.Item, api.Errno) {
	if !right(a) || !rising(l) {
		return nil, api.ErrOrder
	}
	for _, c := range l {
		for _, s := range []keydiff.Side{c.Old, c.New} {
			if !s.There && s.Value != "" {
				return nil, api.ErrForm
			}
		}
	}
	changed := map[string]keydiff.Side{}
	for _, c := range l {
		if sideOf(a, c.Key) != c.Old {
			return nil, api.ErrStale
		}
		changed[c.Key] = c.New
	}
	var made []keydiff.Item
	for _, k := range allKeys {
		s, ok := changed[k]
		if !ok {
			s = sideOf(a, k)
		}
		if s.There {
			made = append(made, keydiff.Item{Key: k, Value: s.Value})
		}
	}
	return made, api.OK
}

// merge is what Merge must return for keyed lists.
func merge(base, ours, theirs []keydiff.Item) ([]keydiff.Item, []keydiff.Conflict) {
	var made []keydiff.Item
	var conflicts []keydiff.Conflict
	for _, k := range allKeys {
		b, o, t := sideOf(base, k), sideOf(ours, k), sideOf(theirs, k)
		var s keydiff.Side
		if o == t {
			s = o
		} else if o == b {
			s = t
		} else if t == b {
			s = o
		} else {
			conflicts = append(conflicts, keydiff.Conflict{Key: k, Base: b, Ours: o, Theirs: t})
		}
		if s.There {
			made = append(made, keydiff.Item{Key: k, Value: s.Value})
		}
	}
	if len(conflicts) > 0 {
		return nil, conflicts
	}
	return made, nil
}

// random returns a keyed list of some of allKeys.
func random(r *rand.Rand, values int) []keydiff.Item {
	var l []keydiff.Item
	for _, k := range allKeys {
		if r.Intn(3) > 0 {
			l = append(l, keydiff.Item{Key: k, Value: value(r, values)})
		}
	}
	return l
}

func value(r *rand.Rand, values int) string { return []string{"", "x", "y", "\x00"}[r.Intn(values)] }

// edited returns l, about n of whose keys have another Side.
func edited(r *rand.Rand, l []keydiff.Item, n int) []keydiff.Item {
	var made []keydiff.Item
	for _, k := range allKeys {
		s := sideOf(l, k)
		if r.Intn(len(allKeys)) < n {
			s = keydiff.Side{Value: value(r, 4), There: r.Intn(3) > 0}
		}
		if s.There {
			made = append(made, keydiff.Item{Key: k, Value: s.Value})
		}
	}
	return made
}

// spoiled returns l with two of its items in the wrong order, or one of them twice; l itself if it has none.
func spoiled(r *rand.Rand, l []keydiff.Item) []keydiff.Item {
	l = slices.Clone(l)
	if len(l) == 0 {
		return l
	}
	i, j := r.Intn(len(l)), r.Intn(len(l))
	if i == j {
		return slices.Insert(l, i, l[i])
	}
	l[i], l[j] = l[j], l[i]
	return l
}

// randomChanges returns changes that mostly fit to a.
func randomChanges(r *rand.Rand, a []keydiff.Item) []keydiff.Change {
	var l []keydiff.Change
	for _, k := range allKeys {
		if r.Intn(4) > 0 {
			continue
		}
		c := keydiff.Change{Key: k, Old: sideOf(a, k), New: sideOf(random(r, 4), k)}
		switch r.Intn(40) {
		case 0:
			c.Old.There = !c.Old.There
		case 1:
			c.Old.Value += "z"
		case 2:
			c.New = keydiff.Side{Value: "z"}
		}
		l = append(l, c)
	}
	if len(l) > 1 && r.Intn(10) == 0 {
		l[0], l[1] = l[1], l[0]
	} else if len(l) > 0 && r.Intn(20) == 0 {
		l = append(l, l[len(l)-1])
	}
	return l
}
