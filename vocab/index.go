package vocab

import (
	"slices"
	"strings"
	"sync"
	"sync/atomic"

	"stemma/api"
	"stemma/merges"
)

// Index finds the entries of a vocabulary by their tokens and by their numbers.
type Index struct {
	entries []Entry // till the maps are built from them
	build   sync.Once
	byToken map[string]Entry
	byID    map[int]Entry
	asked   atomic.Int64
}

// New returns an index of the entries of l.
func New(l []Entry) *Index {
	return &Index{entries: slices.Clone(l)}
}

// ask counts a call, the first of which has the maps built.
func (x *Index) ask() {
	x.asked.Add(1)
	x.build.Do(x.fill)
}

// fill builds the maps; of entries that share a key the first one stays.
func (x *Index) fill() {
	x.byToken = make(map[string]Entry, len(x.entries))
	x.byID = make(map[int]Entry, len(x.entries))
	for _, e := range slices.Backward(x.entries) {
		x.byToken[e.Token] = e
		x.byID[e.ID] = e
	}
	x.entries = nil
}

// ID returns the number of a token, and whether it has one.
func (x *Index) ID(token string) (int, bool) {
	if x == nil {
		return 0, false
	}
	x.ask()
	e, ok := x.byToken[token]
	return e.ID, ok
}

// Token returns the token of a number, and whether it has one.
func (x *Index) Token(id int) (string, bool) {
	if x == nil {
		return "", false
	}
	x.ask()
	e, ok := x.byID[id]
	return e.Token, ok
}

// Encode returns the numbers of the tokens into which the pairs of l split a word, and whether all of them have one.
func (x *Index) Encode(l []merges.Pair, word string) ([]int, bool) {
	if x == nil {
		return nil, false
	}
	x.ask()
	tokens := merges.Split(l, word)
	if len(tokens) == 0 && word != "" {
		return nil, false
	}
	ids := make([]int, len(tokens))
	for i, token := range tokens {
		e, ok := x.byToken[token]
		if !ok {
			return nil, false
		}
		ids[i] = e.ID
	}
	return ids, true
}

// Decode returns the tokens of numbers as one text, and whether all of them have one and the text isn't too long.
func (x *Index) Decode(l []int) (string, bool) {
	if x == nil {
		return "", false
	}
	x.ask()
	var b strings.Builder
	for _, id := range l {
		e, ok := x.byID[id]
		if !ok || len(e.Token) > api.MaxBody-b.Len() {
			return "", false
		}
		b.WriteString(e.Token)
	}
	return b.String(), true
}

// Asked returns how many calls of ID, Token, Encode and Decode there were.
func (x *Index) Asked() int {
	if x == nil {
		return 0
	}
	return int(x.asked.Load())
}
