package pack_test

import (
	"crypto/sha256"
	"fmt"
	"math/rand"
	"slices"
	"strings"
	"sync"
	"testing"

	"stemma/api"
	"stemma/delta"
	"stemma/nums"
	"stemma/pack"
)

const maxText = 262208 // MaxBody + 64

// idOf returns the ID of a text; nothing here asks package sha.
func idOf(data string) string {
	x := sha256.Sum256([]byte(data))
	return string(x[:])
}

// sealed returns a text with its checksum.
func sealed(body string) string { return body + idOf(body) }

// packed returns the pack of items that are given as bytes.
func packed(items ...string) string {
	return sealed("PK" + nums.Put(len(items)) + strings.Join(items, ""))
}

// whole returns the bytes of an item that is a whole one.
func whole(id, data string) string { return id + "\x00" + nums.Put(len(data)) + data }

// derived returns the bytes of an item that is a delta.
func derived(id, base, d string) string { return id + "\x01" + base + nums.Put(len(d)) + d }

// all returns the bytes of an item of the text, with its ID.
func all(data string) string { return whole(idOf(data), data) }

// from returns the bytes of an item of the text as a delta from another one.
func from(base, data string) string { return derived(idOf(data), idOf(base), delta.Make(base, data)) }

// rising returns the pack of items, which are brought into their order.
func rising(items ...string) string {
	slices.Sort(items)
	return packed(items...)
}

// named returns an ID that is no digest.
func named(c byte) string { return strings.Repeat(string([]byte{c}), 32) }

// noise returns n bytes that do not repeat themselves.
func noise(seed int64, n int) string {
	b := make([]byte, n)
	rand.New(rand.NewSource(seed)).Read(b)
	return string(b)
}

// short returns a text that an error can tell.
func short(s string) string { return fmt.Sprintf("%.40q of %d bytes", s, len(s)) }

// open opens what must be a pack.
func open(t *testing.T, s string) *pack.Pack {
	t.Helper()
	p, err := pack.Open(s)
	if p == nil || err != api.OK {
		t.Fatalf("Open of %s: %v, %d", short(s), p, err)
	}
	return p
}

// refused says that Open must have an error.
func refused(t *testing.T, what, s string, want api.Errno) {
	t.Helper()
	if p, err := pack.Open(s); p != nil || err != want {
		t.Errorf("%s: Open of %s: %v, %d; want %d", what, short(s), p, err, want)
	}
}

// has says what a pack must answer about the text of an ID.
func has(t *testing.T, p *pack.Pack, id, data string, depth int) {
	t.Helper()
	if s, err := p.Get(id); s != data || err != api.OK {
		t.Errorf("Get(%.8x): %s, %d; want %s", id, short(s), err, short(data))
	}
	if n, ok := p.Depth(id); n != depth || !ok {
		t.Errorf("Depth(%.8x): %d, %t; want %d", id, n, ok, depth)
	}
}

// hasNot says what a pack must answer about an ID whose Get has an error; a depth below 0: it has none.
func hasNot(t *testing.T, what string, p *pack.Pack, id string, want api.Errno, depth int) {
	t.Helper()
	if s, err := p.Get(id); s != "" || err != want {
		t.Errorf("%s: Get(%.8x): %s, %d; want %d", what, id, short(s), err, want)
	}
	if n, ok := p.Depth(id); n != max(depth, 0) || ok != (depth >= 0) {
		t.Errorf("%s: Depth(%.8x): %d, %t; want %d", what, id, n, ok, depth)
	}
}

// P14.1

func TestOpen(t *testing.T) {
	long := noise(1, maxText)
	for what, x := range map[string]struct {
		s   string
		ids []string
	}{
		"no item":              {sealed("PK\x00"), nil},
		"one":                  {packed(all("abc")), []string{idOf("abc")}},
		"one of no bytes":      {packed(all("")), []string{idOf("")}},
		"a delta":              {packed(derived(named(1), named(2), "\x00\x00")), []string{named(1)}},
		"the least ID":         {packed(whole(named(0), "")), []string{named(0)}},
		"the greatest ID":      {packed(whole(named(0xff), "")), []string{named(0xff)}},
		"rising":               {packed(whole(named(1), "x"), whole(named(2), "x")), []string{named(1), named(2)}},
		"just rising":          {packed(whole(named(1), ""), whole(named(1)[:31]+"\x02", "")), []string{named(1), named(1)[:31] + "\x02"}},
		"the longest":          {packed(all(long)), []string{idOf(long)}},
		"more than a body":     {packed(all(long[:api.MaxBody+1])), []string{idOf(long[:api.MaxBody+1])}},
		"the longest delta":    {packed(derived(named(1), named(1), long)), []string{named(1)}},
		"what is no delta":     {packed(derived(named(1), named(2), "")), []string{named(1)}},
		"a text that is other": {packed(whole(idOf("abc"), "abd")), []string{idOf("abc")}},
	} {
		if l := open(t, x.s).IDs(); !slices.Equal(l, x.ids) {
			t.Errorf("%s: %.8x, want %.8x", what, l, x.ids)
		}
	}
}

// The chapter bounds the pack that Make returns, not that which Open reads.
func TestOpenLimits(t *testing.T) {
	var items []string
	for i := range 5 {
		items = append(items, all(noise(int64(i), maxText)))
	}
	p := open(t, rising(items...))
	for i := range 5 {
		has(t, p, idOf(noise(int64(i), maxText)), noise(int64(i), maxText), 0)
	}
	items = nil
	for i := range api.MaxItems {
		items = append(items, all(fmt.Sprint(i)))
	}
	p = open(t, rising(items...))
	if n := len(p.IDs()); n != api.MaxItems {
		t.Errorf("%d items", n)
	}
	for i := range api.MaxItems {
		has(t, p, idOf(fmt.Sprint(i)), fmt.Sprint(i), 0)
	}
	refused(t, "an item more", rising(append(items, all("x"))...), api.ErrLong)
}

func TestOpenRefuses(t *testing.T) {
	one := all("abc")
	for _, x := range []struct {
		what, s string
		want    api.Errno
	}{
		{"nothing", "", api.ErrShort},
		{"a mark", "PK", api.ErrShort},
		{"34 bytes", sealed("PK"), api.ErrShort},
		{"34 bytes of another mark", sealed("XX"), api.ErrShort},
		{"another mark", sealed("pk\x00"), api.ErrForm},
		{"another mark", sealed("PX\x00"), api.ErrForm},
		{"another mark", sealed("KP\x00"), api.ErrForm},
		{"another mark and sum", strings.Repeat("x", 35), api.ErrForm},
		{"another sum", "PK\x00" + strings.Repeat("\x00", 32), api.ErrSum},
		{"another sum, and no number", "PK\xff" + strings.Repeat("\x00", 32), api.ErrSum},
		{"the sum of more", "PK\x00" + idOf("PK\x00\x00"), api.ErrSum},
		{"bytes behind the sum", sealed("PK\x00") + "\x00", api.ErrSum},
		{"a byte less", sealed("PK\x00\x00")[:35], api.ErrSum},
		// the number ends ahead of the checksum
		{"no whole number", sealed("PK\x80"), api.ErrShort},
		{"no whole number", sealed("PK\xf8\x00\x00"), api.ErrShort},
		{"no number", sealed("PK\xfc"), api.ErrForm},
		{"no number", sealed("PK\x80\x01" + one), api.ErrForm},
		{"no number", sealed("PK\xf9\x00\x00\x00\x00\x01"), api.ErrForm},
		{"too many", sealed("PK" + nums.Put(api.MaxItems+1)), api.ErrLong},
		{"too many", sealed("PK" + nums.Put(api.MaxNumber)), api.ErrLong},
		{"as many as there may be", sealed("PK" + nums.Put(api.MaxItems)), api.ErrShort},
		{"no item", sealed("PK\x01"), api.ErrShort},
		{"an item less", sealed("PK\x02" + one), api.ErrShort},
		{"an item more", sealed("PK\x00" + one), api.ErrTail},
		{"a byte more", sealed("PK\x01" + one + "\x00"), api.ErrTail},
		{"a byte more", sealed("PK\x00\x00"), api.ErrTail},
	} {
		refused(t, x.what, x.s, x.want)
	}
}

func TestOpenRefusesItems(t *testing.T) {
	id, other := named(5), named(6)
	for _, x := range []struct {
		what, item string
		want       api.Errno
	}{
		{"32 bytes", id, api.ErrShort},
		{"no kind", id[:31] + "\x02", api.ErrShort},
		{"another kind", id + "\x02", api.ErrForm},
		{"another kind", id + "\xff\x01a", api.ErrForm},
		{"another kind", id + "0\x01a", api.ErrForm},
		{"no text", id + "\x00", api.ErrShort},
		{"no whole number", id + "\x00\x80", api.ErrShort},
		{"no number", id + "\x00\xfc", api.ErrForm},
		{"no number", id + "\x00\x80\x01a", api.ErrForm},
		{"no number", id + "\x00\xf9\x00\x00\x00\x00\x01", api.ErrForm},
		{"no whole text", id + "\x00\x01", api.ErrShort},
		{"no whole text", id + "\x00\x04abc", api.ErrShort},
		{"too long", id + "\x00" + nums.Put(maxText+1), api.ErrLong},
		{"too long", id + "\x00" + nums.Put(api.MaxNumber), api.ErrLong},
		{"as long as it may be", id + "\x00" + nums.Put(maxText), api.ErrShort},
		{"no base", id + "\x01", api.ErrShort},
		{"no whole base", id + "\x01" + other[:31], api.ErrShort},
		{"no delta", id + "\x01" + other, api.ErrShort},
		{"no number", id + "\x01" + other + "\xfc", api.ErrForm},
		{"no whole delta", id + "\x01" + other + "\x03\x00\x00", api.ErrShort},
		{"too long a delta", id + "\x01" + other + nums.Put(maxText+1), api.ErrLong},
		// not rising; ahead of it is whatever is wrong with the item itself
		{"a lesser ID", whole(named(3), ""), api.ErrOrder},
		{"the same ID", whole(named(4), ""), api.ErrOrder},
		{"the same ID", derived(named(4), id, ""), api.ErrOrder},
		{"a lesser ID, another kind", named(3) + "\x02", api.ErrForm},
		{"a lesser ID, no text", named(3) + "\x00", api.ErrShort},
		{"a lesser ID, too long", named(3) + "\x00" + nums.Put(maxText+1), api.ErrLong},
		{"a lesser ID, no base", named(3) + "\x01", api.ErrShort},
	} {
		head := "PK\x02" + whole(named(4), "x")
		refused(t, x.what, sealed(head+x.item), x.want)
		if x.want != api.ErrOrder {
			refused(t, x.what+", the first", sealed("PK\x01"+x.item), x.want)
		}
	}
	// The first item with an error, and bytes behind the items only after all of them.
	refused(t, "two errors", sealed("PK\x03"+whole(named(4), "")+whole(named(3), "")+id+"\x02"), api.ErrOrder)
	refused(t, "two errors", sealed("PK\x03"+id+"\x02\x00"+whole(named(3), "")), api.ErrForm)
	refused(t, "two errors", sealed("PK\x02"+whole(named(4), "")+whole(named(3), "")+"x"), api.ErrOrder)
	long := noise(1, maxText+1)
	refused(t, "too long", packed(all(long)), api.ErrLong)
	refused(t, "too long a delta", packed(derived(named(1), named(2), long)), api.ErrLong)
}

// Whatever of a pack is changed or left out, Open sees it.
func TestOpenDamaged(t *testing.T) {
	s := rising(all("abc"), all(noise(1, 200)), from(noise(1, 200), "x"+noise(1, 200)))
	open(t, s)
	for i := range len(s) {
		for bit := range 8 {
			b := []byte(s)
			b[i] ^= 1 << bit
			want := api.ErrSum
			if i < 2 {
				want = api.ErrForm
			}
			refused(t, "a bit", string(b), want)
		}
		want := api.ErrSum
		if i < 35 {
			want = api.ErrShort
		}
		refused(t, "a part", s[:i], want)
	}
}

// P14.2

func TestGet(t *testing.T) {
	a := noise(1, 300)
	b, c, d := a+"b", "c"+a, noise(2, 100)
	p := open(t, rising(all(a), from(a, b), from(b, c), all(d), all(""), from(d, "small")))
	has(t, p, idOf(a), a, 0)
	has(t, p, idOf(b), b, 1)
	has(t, p, idOf(c), c, 2)
	has(t, p, idOf(d), d, 0)
	has(t, p, idOf(""), "", 0)
	has(t, p, idOf("small"), "small", 1)
	ids := []string{idOf(a), idOf(b), idOf(c), idOf(d), idOf(""), idOf("small")}
	slices.Sort(ids)
	if l := p.IDs(); !slices.Equal(l, ids) {
		t.Errorf("IDs: %.8x, want %.8x", l, ids)
	}
	for _, id := range []string{"", "a", idOf("none"), named(0), named(0xff), idOf(a)[:31], idOf(a) + "\x00", a} {
		hasNot(t, "no such item", p, id, api.ErrNone, -1)
	}
	empty := open(t, sealed("PK\x00"))
	hasNot(t, "the empty pack", empty, idOf(""), api.ErrNone, -1)
	hasNot(t, "the empty pack", empty, "", api.ErrNone, -1)
	if l := empty.IDs(); len(l) != 0 {
		t.Errorf("IDs of the empty pack: %.8x", l)
	}
}

// chained returns the items of a chain of n deltas, each of which adds a byte, and the texts from the whole one on.
func chained(n int) ([]string, []string) {
	texts := []string{noise(3, 100)}
	items := []string{all(texts[0])}
	for i := range n {
		texts = append(texts, texts[i]+"x")
		items = append(items, from(texts[i], texts[i+1]))
	}
	return items, texts
}

func TestChain(t *testing.T) {
	items, texts := chained(12)
	p := open(t, rising(items...))
	for i, data := range texts {
		if i <= api.MaxChain {
			has(t, p, idOf(data), data, i)
		} else {
			hasNot(t, "too deep", p, idOf(data), api.ErrDeep, -1)
		}
	}
	// Without the whole one: of the chains that are not too long already, the base does not exist.
	items, _ = chained(12)
	p = open(t, rising(items[1:]...))
	for i, data := range texts[1:] {
		want := api.ErrCorrupt
		if i+1 > api.MaxChain {
			want = api.ErrDeep
		}
		hasNot(t, "no base", p, idOf(data), want, -1)
	}
	hasNot(t, "no base", p, idOf(texts[0]), api.ErrNone, -1)
}

func TestChainInCircle(t *testing.T) {
	p := open(t, packed(
		derived(named(1), named(1), "\x00\x00"),
		derived(named(2), named(3), "\x00\x00"),
		derived(named(3), named(2), "\x00\x00"),
		derived(named(4), named(2), "\x00\x00"),
		derived(named(5), named(9), "\x00\x00"),
		derived(named(6), named(5), "\x00\x00"),
	))
	for c := range byte(4) {
		hasNot(t, "a circle", p, named(c+1), api.ErrDeep, -1)
	}
	hasNot(t, "no base", p, named(5), api.ErrCorrupt, -1)
	hasNot(t, "no base of the base", p, named(6), api.ErrCorrupt, -1)
}

// The bases need not have their digests: what counts is the text that was asked for.
func TestGetByOtherBases(t *testing.T) {
	p := open(t, rising(
		whole(named(1), "abcd"),
		derived(named(2), named(1), "\x04\x05\x01\x00\x02\x00\x01x\x01\x02\x02"),
		derived(idOf("abx"), named(2), "\x05\x03\x01\x00\x03"),
	))
	has(t, p, idOf("abx"), "abx", 2)
	hasNot(t, "another digest", p, named(1), api.ErrCorrupt, 0)
	hasNot(t, "another digest", p, named(2), api.ErrCorrupt, 1)
}

func TestGetRefuses(t *testing.T) {
	const good = "\x04\x04\x01\x00\x04"
	for _, x := range []struct {
		what          string
		first, second string // deltas from abcd: the second one from the text of the first
		want          api.Errno
	}{
		{"no delta", good, "", api.ErrShort},
		{"no sizes", good, "\x04", api.ErrShort},
		{"no number", good, "\xfc", api.ErrForm},
		{"too long a base", good, nums.Put(maxText+1) + "\x00", api.ErrLong},
		{"another base", good, "\x05\x00", api.ErrStale},
		{"no instruction", good, "\x04\x01\x02", api.ErrForm},
		{"bytes that are not there", good, "\x04\x01\x01\x04\x01", api.ErrForm},
		{"too few new bytes", good, "\x04\x03\x00\x03ab", api.ErrShort},
		{"too many bytes", good, "\x04\x01\x00\x02ab", api.ErrLong},
		{"too few bytes", good, "\x04\x03\x00\x02ab", api.ErrTail},
		{"another text", good, "\x04\x01\x00\x01x", api.ErrCorrupt},
		{"an error of the first", "\x05\x00", good, api.ErrStale},
		// that from the whole one on
		{"two errors", "\x05\x00", "\xfc", api.ErrStale},
		{"two errors", "\xfc", "\x05\x00", api.ErrForm},
		{"two errors", "\x04\x05\x01\x00\x04", "", api.ErrTail},
		{"a base of another length", "\x04\x03\x01\x00\x03", good, api.ErrStale},
	} {
		p := open(t, packed(
			whole(named(1), "abcd"),
			derived(named(2), named(1), x.first),
			derived(named(3), named(2), x.second),
		))
		hasNot(t, x.what, p, named(3), x.want, 2)
	}
	// What is wrong with the chain comes ahead of what is wrong with a delta.
	p := open(t, packed(derived(named(1), named(2), "\xfc"), derived(named(3), named(3), "\xfc")))
	hasNot(t, "no base, and no delta", p, named(1), api.ErrCorrupt, -1)
	hasNot(t, "a circle, and no delta", p, named(3), api.ErrDeep, -1)
	p = open(t, packed(whole(idOf("abc"), "abd")))
	hasNot(t, "another text", p, idOf("abc"), api.ErrCorrupt, 0)
}

func TestNil(t *testing.T) {
	var p *pack.Pack
	for _, id := range []string{"", "a", idOf("abc")} {
		hasNot(t, "nil", p, id, api.ErrArg, -1)
	}
	if l := p.IDs(); len(l) != 0 {
		t.Errorf("IDs of nil: %q", l)
	}
}

// No call of a pack that was made by hand panics (P1).
func TestByHand(t *testing.T) {
	p := new(pack.Pack)
	p.IDs()
	p.Get(idOf("abc"))
	p.Depth("")
}

// What IDs returns is the caller's.
func TestIDsAreNew(t *testing.T) {
	p := open(t, rising(all("a"), all("b"), all("c")))
	want := slices.Clone(p.IDs())
	l := p.IDs()
	for i := range l {
		l[i] = "changed"
	}
	_ = append(p.IDs()[:1], "changed")
	if l := p.IDs(); !slices.Equal(l, want) {
		t.Errorf("IDs: %q, want %q", l, want)
	}
	for _, data := range []string{"a", "b", "c"} {
		has(t, p, idOf(data), data, 0)
	}
}

// A pack may be used by several at once from the first call on.
func TestUsedAtOnce(t *testing.T) {
	items, texts := chained(api.MaxChain)
	s := rising(items...)
	for range 50 {
		p := open(t, s)
		var w sync.WaitGroup
		for i := range 8 {
			w.Go(func() {
				data := texts[i]
				if s, err := p.Get(idOf(data)); s != data || err != api.OK {
					t.Errorf("Get: %s, %d", short(s), err)
				}
				if n, ok := p.Depth(idOf(data)); n != i || !ok {
					t.Errorf("Depth: %d, %t", n, ok)
				}
				if n := len(p.IDs()); n != len(texts) {
					t.Errorf("%d IDs", n)
				}
			})
		}
		w.Wait()
	}
}
