package pack

import (
	"cmp"
	"slices"
	"strings"

	"stemma/api"
	"stemma/delta"
	"stemma/nums"
	"stemma/sha"
)

const (
	tries  = 8  // how many texts are tried as the base of one
	enough = 64 // no other base is tried for a text of that many times the bytes of its item
)

// Item of a pack: an ID, and its bytes.
type Item struct{ ID, Data string }

// base is a text from which deltas may lead to others.
type base struct {
	Item
	depth int // how many deltas its own bytes are made by
}

// Make returns the pack of all texts of l.
func Make(l []string) (string, api.Errno) {
	texts, err := distinct(l)
	if err != api.OK {
		return "", err
	}
	head := mark + nums.Put(len(texts))
	items, err := choose(texts, api.MaxFile-len(head)-idSize)
	if err != api.OK {
		return "", err
	}
	slices.SortFunc(items, func(x, y item) int { return strings.Compare(x.id, y.id) })
	var b strings.Builder
	b.WriteString(head)
	for _, x := range items {
		b.WriteString(x.head())
		b.WriteString(nums.Join(x.text))
	}
	b.WriteString(sha.Sum(b.String()))
	return b.String(), api.OK
}

// distinct returns the texts of l, each once.
func distinct(l []string) ([]Item, api.Errno) {
	var texts []Item
	known := map[string]struct{}{}
	for _, data := range l {
		if len(data) > maxText {
			return nil, api.ErrLong
		}
		id := sha.Sum(data)
		if _, ok := known[id]; ok {
			continue
		}
		if len(texts) == api.MaxItems {
			return nil, api.ErrLong
		}
		known[id] = struct{}{}
		texts = append(texts, Item{id, data})
	}
	return texts, api.OK
}

// choose returns the items of texts, which it sorts; ErrLong if they take more bytes than there is room for.
func choose(texts []Item, room int) ([]item, api.Errno) {
	// Versions of a text have about its length. The longest come first: to leave bytes out takes less than to add them.
	slices.SortFunc(texts, func(x, y Item) int {
		return cmp.Or(len(y.Data)-len(x.Data), strings.Compare(x.Data, y.Data))
	})
	var items []item
	var near []base // the last texts whose chains may become longer
	for _, t := range texts {
		x := best(t, near)
		if room -= x.size(); room < 0 {
			return nil, api.ErrLong
		}
		items = append(items, x.item)
		if x.depth < api.MaxChain {
			near = append(near, base{t, x.depth})
			near = near[max(0, len(near)-tries):]
		}
	}
	return items, api.OK
}

// choice is an item that a text may have.
type choice struct {
	item
	depth int // how many deltas its bytes are made by
}

// better reports whether x is to be taken rather than y. Few deltas can follow upon a long chain: it must save more, and
// so any delta that is better than the whole item is shorter.
func (x choice) better(y choice) bool {
	return x.size()*(api.MaxChain+1-y.depth) < y.size()*(api.MaxChain+1-x.depth)
}

// best returns the item of a text that is to be taken: the whole one, or a delta from a text that is near.
func best(t Item, near []base) choice {
	found := choice{item: item{id: t.ID, text: t.Data}}
	for _, b := range slices.Backward(near) {
		x := choice{item{id: t.ID, base: b.ID, text: delta.Make(b.Data, t.Data)}, b.depth + 1}
		if x.better(found) {
			found = x
		}
		if found.size() <= len(t.Data)/enough {
			break
		}
	}
	return found
}
