package pack

import (
	"stemma/api"
	"stemma/nums"
)

const (
	idSize  = 32
	maxText = api.MaxBody + 64 // bytes of a text, and of a delta
)

// The kinds of items.
const (
	kindWhole = "\x00"
	kindDelta = "\x01"
)

// item is one as it stands in a pack.
type item struct {
	id   string
	base string // the ID of its base; empty if it is a whole one
	text string // its bytes, or the delta from those of the base
}

// whole reports whether the item has all of its bytes.
func (x item) whole() bool { return x.base == "" }

// head returns what stands ahead of the item's text.
func (x item) head() string {
	if x.whole() {
		return x.id + kindWhole
	}
	return x.id + kindDelta + x.base
}

// size returns how many bytes the item takes in a pack.
func (x item) size() int { return len(x.head()) + len(nums.Put(len(x.text))) + len(x.text) }

// next returns the item at the beginning of s, and how many bytes it takes.
func next(s string) (item, int, api.Errno) {
	at := idSize + 1
	if len(s) < at {
		return item{}, 0, api.ErrShort
	}
	x := item{id: s[:idSize]}
	switch s[idSize:at] {
	case kindWhole:
	case kindDelta:
		at += idSize
		if len(s) < at {
			return item{}, 0, api.ErrShort
		}
		x.base = s[at-idSize : at]
	default:
		return item{}, 0, api.ErrForm
	}
	text, n, err := nextText(s[at:])
	if err != api.OK {
		return item{}, 0, err
	}
	x.text = text
	return x, at + n, api.OK
}

// nextText is layer 1's Next, but for texts that may be longer: an object has more bytes than its body.
func nextText(s string) (string, int, api.Errno) {
	size, from, err := nums.Get(s)
	if err != api.OK {
		return "", 0, err
	}
	if size > maxText {
		return "", 0, api.ErrLong
	}
	if size > len(s)-from {
		return "", 0, api.ErrShort
	}
	return s[from : from+size], from + size, api.OK
}
