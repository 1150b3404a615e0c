package vocab_test

import (
	"math"
	"math/rand"
	"slices"
	"strconv"
	"strings"
	"sync"
	"testing"

	"stemma/api"
	"stemma/merges"
	"stemma/vocab"
)

// P9.3

// has says what ID must return.
func has(t *testing.T, x *vocab.Index, token string, id int, ok bool) {
	t.Helper()
	if n, found := x.ID(token); n != id || found != ok {
		t.Errorf("ID(%q): %d, %v, want %d, %v", token, n, found, id, ok)
	}
}

// names says what Token must return.
func names(t *testing.T, x *vocab.Index, id int, token string, ok bool) {
	t.Helper()
	if s, found := x.Token(id); s != token || found != ok {
		t.Errorf("Token(%d): %q, %v, want %q, %v", id, s, found, token, ok)
	}
}

// encodes says what Encode must return.
func encodes(t *testing.T, x *vocab.Index, l []merges.Pair, word string, ids []int, ok bool) {
	t.Helper()
	if n, found := x.Encode(l, word); !slices.Equal(n, ids) || found != ok {
		t.Errorf("Encode(%q): %v, %v, want %v, %v", word, n, found, ids, ok)
	}
}

// decodes says what Decode must return.
func decodes(t *testing.T, x *vocab.Index, ids []int, word string, ok bool) {
	t.Helper()
	if s, found := x.Decode(ids); s != word || found != ok {
		t.Errorf("Decode(%v): %q, %v, want %q, %v", ids, s, found, word, ok)
	}
}

func TestIndex(t *testing.T) {
	x := vocab.New([]vocab.Entry{{3, "a"}, {7, "b"}, {1 << 30, "ab"}})
	has(t, x, "a", 3, true)
	has(t, x, "b", 7, true)
	has(t, x, "ab", 1<<30, true)
	has(t, x, "", 0, false)
	has(t, x, "ba", 0, false)
	names(t, x, 3, "a", true)
	names(t, x, 7, "b", true)
	names(t, x, 1<<30, "ab", true)
	for _, id := range []int{0, -1, 4, math.MinInt, math.MaxInt} {
		names(t, x, id, "", false)
	}
}

// TestIndexAny has entries that are no vocabulary.
func TestIndexAny(t *testing.T) {
	x := vocab.New([]vocab.Entry{{5, "a"}, {3, "a"}, {5, "b"}, {-2, ""}, {0, ""}, {0, "\xff\n"}, {3, "c"}})
	has(t, x, "a", 5, true)
	has(t, x, "b", 5, true)
	has(t, x, "", -2, true)
	has(t, x, "\xff\n", 0, true)
	has(t, x, "c", 3, true)
	names(t, x, 5, "a", true)
	names(t, x, 3, "a", true)
	names(t, x, -2, "", true)
	names(t, x, 0, "", true)
	decodes(t, x, []int{5, 0, 3, -2}, "aa", true)
	encodes(t, x, nil, "bac", []int{5, 5, 3}, true)
}

func TestIndexEmpty(t *testing.T) {
	for _, x := range []*vocab.Index{vocab.New(nil), vocab.New([]vocab.Entry{})} {
		if x == nil {
			t.Fatal("New of no entries: nil")
		}
		has(t, x, "a", 0, false)
		names(t, x, 0, "", false)
		encodes(t, x, nil, "a", nil, false)
		encodes(t, x, nil, "", nil, true)
		decodes(t, x, []int{0}, "", false)
		decodes(t, x, nil, "", true)
		if n := x.Asked(); n != 6 {
			t.Errorf("Asked: %d", n)
		}
	}
}

func TestEncode(t *testing.T) {
	l := []merges.Pair{{A: "a", B: "b"}, {A: "ab", B: "c"}}
	x := vocab.New([]vocab.Entry{{1, "a"}, {2, "b"}, {4, "ab"}, {9, "abc"}, {11, "x"}, {12, "cx"}})
	encodes(t, x, l, "abcab", []int{9, 4}, true)
	encodes(t, x, l, "", nil, true)
	encodes(t, x, l, "ba", []int{2, 1}, true)
	encodes(t, x, nil, "ab", []int{1, 2}, true)
	encodes(t, x, l, "abxabc", []int{4, 11, 9}, true)
	// Only the parts count: c has no number, and cx, which has one, is none.
	encodes(t, x, l, "c", nil, false)
	encodes(t, x, l, "abac", nil, false)
	encodes(t, x, l, "cx", nil, false)
	encodes(t, x, nil, "abc", nil, false)
	encodes(t, x, l, "ab\xff", nil, false)
}

func TestEncodeLong(t *testing.T) {
	x := vocab.New([]vocab.Entry{{0, "a"}, {6, "aa"}})
	word := strings.Repeat("a", 4096)
	encodes(t, x, nil, word, make([]int, 4096), true)
	encodes(t, x, []merges.Pair{{A: "a", B: "a"}}, word, slices.Repeat([]int{6}, 2048), true)
	encodes(t, x, nil, word+"a", nil, false)
	encodes(t, x, []merges.Pair{{A: "a", B: "a"}}, strings.Repeat("a", 8192), nil, false)
}

func TestDecode(t *testing.T) {
	x := vocab.New([]vocab.Entry{{1, "a"}, {2, "b"}, {4, "ab"}})
	decodes(t, x, []int{4, 2, 1, 1}, "abbaa", true)
	decodes(t, x, []int{}, "", true)
	decodes(t, x, []int{0}, "", false)
	decodes(t, x, []int{1, 2, 3}, "", false)
	decodes(t, x, []int{-1, 1}, "", false)
}

func TestDecodeLong(t *testing.T) {
	x := vocab.New([]vocab.Entry{{0, strings.Repeat("x", 64)}, {1, "a"}, {2, ""}, {3, strings.Repeat("y", api.MaxBody+1)}, {4, strings.Repeat("z", api.MaxBody)}})
	full := make([]int, api.MaxBody/64)
	decodes(t, x, full, strings.Repeat("x", api.MaxBody), true)
	decodes(t, x, append(full, 2), strings.Repeat("x", api.MaxBody), true)
	decodes(t, x, append(full, 1), "", false)
	decodes(t, x, append([]int{1}, full...), "", false)
	decodes(t, x, append(full, 2, 1, 9), "", false)
	decodes(t, x, []int{3}, "", false)
	decodes(t, x, []int{4}, strings.Repeat("z", api.MaxBody), true)
	decodes(t, x, []int{1, 4}, "", false)
}

func TestAsked(t *testing.T) {
	x := vocab.New([]vocab.Entry{{1, "a"}, {2, "b"}})
	other := vocab.New([]vocab.Entry{{1, "a"}})
	calls := []func(){
		func() { x.ID("a") },
		func() { x.ID("q") },
		func() { x.Token(1) },
		func() { x.Token(9) },
		func() { x.Encode(nil, "abab") },
		func() { x.Encode(nil, "aq") },
		func() { x.Encode(nil, strings.Repeat("a", 5000)) },
		func() { x.Encode(nil, "") },
		func() { x.Decode([]int{1, 2, 1}) },
		func() { x.Decode([]int{7, 8}) },
		func() { x.Decode(nil) },
	}
	for i, call := range calls {
		for range 2 {
			if n := x.Asked(); n != i {
				t.Errorf("Asked after %d calls: %d", i, n)
			}
		}
		call()
	}
	if n := x.Asked(); n != len(calls) {
		t.Errorf("Asked after all calls: %d", n)
	}
	if n := other.Asked(); n != 0 {
		t.Errorf("Asked of another index: %d", n)
	}
}

func TestNilIndex(t *testing.T) {
	var x *vocab.Index
	has(t, x, "a", 0, false)
	names(t, x, 0, "", false)
	encodes(t, x, []merges.Pair{{A: "a", B: "b"}}, "ab", nil, false)
	encodes(t, x, nil, "", nil, false)
	decodes(t, x, []int{0}, "", false)
	decodes(t, x, nil, "", false)
	if n := x.Asked(); n != 0 {
		t.Errorf("Asked: %d", n)
	}
}

// TestIndexKeeps holds that what becomes of the entries and of results has no effect on an index.
func TestIndexKeeps(t *testing.T) {
	whole := []vocab.Entry{{1, "a"}, {2, "b"}, {3, "c"}}
	x := vocab.New(whole[:2])
	whole[0] = vocab.Entry{ID: 8, Token: "z"}
	has(t, x, "a", 1, true)
	has(t, x, "c", 0, false)
	whole[1] = vocab.Entry{ID: 9, Token: "y"}
	names(t, x, 2, "b", true)
	ids, _ := x.Encode(nil, "ab")
	ids[0] = 7
	encodes(t, x, nil, "ab", []int{1, 2}, true)
	if !slices.Equal(whole, []vocab.Entry{{8, "z"}, {9, "y"}, {3, "c"}}) {
		t.Errorf("the entries are now %v", whole)
	}
}

func TestIndexAtOnce(t *testing.T) {
	for range 50 {
		x := vocab.New(numbered(500))
		var all sync.WaitGroup
		for g := range 8 {
			all.Go(func() {
				for i := g; i < 500; i += 8 {
					has(t, x, "t"+strconv.Itoa(i), i, true)
					names(t, x, i, "t"+strconv.Itoa(i), true)
				}
			})
		}
		all.Wait()
		if n := x.Asked(); n != 1000 {
			t.Fatalf("Asked after 1000 calls: %d", n)
		}
	}
}

// P9.4

// valid returns a list of n pairs without repetitions whose parts are bytes or made by earlier pairs.
func valid(r *rand.Rand, n int) []merges.Pair {
	var parts []string
	for b := 0x21; b <= 0x7e; b++ {
		parts = append(parts, string([]byte{byte(b)}))
	}
	var l []merges.Pair
	for len(l) < n {
		p := merges.Pair{A: parts[r.Intn(len(parts))], B: parts[r.Intn(len(parts))]}
		if len(p.A)+len(p.B) > api.MaxToken || slices.Contains(l, p) {
			continue
		}
		l = append(l, p)
		parts = append(parts, p.A+p.B)
	}
	return l
}

func TestBackAndForth(t *testing.T) {
	r := rand.New(rand.NewSource(11))
	for range 60 {
		l := valid(r, r.Intn(400))
		if merges.Invalid(l) != -1 {
			t.Fatal("the list isn't valid")
		}
		entries := vocab.Of(l)
		x := vocab.New(entries)
		for range 20 {
			var b strings.Builder
			for b.Len() < r.Intn(300) {
				b.WriteString(entries[r.Intn(len(entries))].Token)
			}
			word := b.String()
			ids, ok := x.Encode(l, word)
			if !ok {
				t.Fatalf("Encode(%q): false", word)
			}
			decodes(t, x, ids, word, true)
		}
		text := vocab.Show(entries)
		if back, line, err := vocab.Parse(text); !slices.Equal(back, entries) || line != 0 || err != api.OK {
			t.Fatalf("Parse of what Of returns: %d, %d", line, err)
		}
	}
}
