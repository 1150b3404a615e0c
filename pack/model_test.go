package pack_test

import (
	"math/rand"
	"slices"
	"testing"

	"stemma/api"
	"stemma/delta"
	"stemma/nums"
	"stemma/pack"
)

// modelItem is an item of a model.
type modelItem struct {
	id, base, text string
	whole          bool
}

// model is a pack in the chapter's words.
type model []modelItem

// openModel is Open in the chapter's words.
func openModel(s string) (model, api.Errno) {
	if len(s) < 35 {
		return nil, api.ErrShort
	}
	if s[0] != 'P' || s[1] != 'K' {
		return nil, api.ErrForm
	}
	end := len(s) - 32
	if idOf(s[:end]) != s[end:] {
		return nil, api.ErrSum
	}
	s = s[2:end]
	n, size, err := nums.Get(s)
	if err != api.OK {
		return nil, err
	}
	if n > 4096 {
		return nil, api.ErrLong
	}
	s = s[size:]
	var m model
	for i := 0; i < n; i++ {
		if len(s) < 33 {
			return nil, api.ErrShort
		}
		x := modelItem{id: s[:32], whole: s[32] == 0}
		if s[32] > 1 {
			return nil, api.ErrForm
		}
		if !x.whole {
			if len(s) < 65 {
				return nil, api.ErrShort
			}
			x.base = s[33:65]
			s = s[65:]
		} else {
			s = s[33:]
		}
		n, size, err := nums.Get(s)
		if err != api.OK {
			return nil, err
		}
		if n > maxText {
			return nil, api.ErrLong
		}
		s = s[size:]
		if n > len(s) {
			return nil, api.ErrShort
		}
		x.text, s = s[:n], s[n:]
		if i > 0 && x.id <= m[i-1].id {
			return nil, api.ErrOrder
		}
		m = append(m, x)
	}
	if s != "" {
		return nil, api.ErrTail
	}
	return m, api.OK
}

// item returns the index of an item; -1 if there is none.
func (m model) item(id string) int {
	return slices.IndexFunc(m, func(x modelItem) bool { return x.id == id })
}

// get is Get in the chapter's words, up to the digest; a chain may have that many deltas more.
func (m model) get(id string, more int) (string, api.Errno) {
	i := m.item(id)
	if m[i].whole {
		return m[i].text, api.OK
	}
	if more == 0 {
		return "", api.ErrDeep
	}
	if m.item(m[i].base) < 0 {
		return "", api.ErrCorrupt
	}
	base, err := m.get(m[i].base, more-1)
	if err != api.OK {
		return "", err
	}
	return delta.Apply(base, m[i].text)
}

func (m model) wantGet(id string) (string, api.Errno) {
	if m.item(id) < 0 {
		return "", api.ErrNone
	}
	data, err := m.get(id, 8)
	if err == api.OK && idOf(data) != id {
		return "", api.ErrCorrupt
	}
	return data, err
}

func (m model) wantDepth(id string) (int, bool) {
	for n := 0; n <= 8; n++ {
		i := m.item(id)
		if i < 0 {
			return 0, false
		}
		if m[i].whole {
			return n, true
		}
		id = m[i].base
	}
	return 0, false
}

// somePack returns a pack; some of its bytes and deltas may be wrong.
func somePack(r *rand.Rand) string {
	perhaps := func(n int) bool { return r.Intn(n) == 0 }
	texts := []string{noise(r.Int63(), r.Intn(80))}
	items := []string{all(texts[0])}
	if perhaps(8) {
		items = nil
	}
	for range r.Intn(14) {
		base := texts[len(texts)-1]
		if perhaps(3) {
			base = texts[r.Intn(len(texts))]
		}
		data := base + noise(r.Int63(), 1+r.Intn(4))
		d := delta.Make(base, data)
		switch r.Intn(40) {
		case 0:
			d = delta.Make("x"+base, data)
		case 1:
			d = d[:r.Intn(len(d))]
		case 2:
			d = delta.Make(base, data+"x")
		}
		texts = append(texts, data)
		switch r.Intn(12) {
		case 0, 1:
			items = append(items, all(data))
		case 2:
			items = append(items, whole(idOf(data), data+"x"))
		case 3:
			items = append(items, derived(idOf(data), idOf(texts[r.Intn(len(texts))]), d))
		case 4: // left out
		default:
			items = append(items, derived(idOf(data), idOf(base), d))
		}
	}
	if slices.Sort(items); len(items) > 0 && perhaps(12) {
		items = append(items, items[r.Intn(len(items))])
	}
	s := packed(items...)
	if !perhaps(3) {
		return s
	}
	b := []byte(s[:len(s)-32])
	if perhaps(2) {
		b[2] = byte(r.Intn(20))
	}
	if perhaps(10) {
		b[r.Intn(3)] = 0xfe
	}
	if perhaps(2) {
		b[2+r.Intn(len(b)-2)] = byte(r.Intn(256))
	}
	if perhaps(3) {
		b = b[:3+r.Intn(len(b)-2)]
	}
	return sealed(string(b))
}

func TestAsModel(t *testing.T) {
	opened, got := map[api.Errno]int{}, map[api.Errno]int{}
	for seed := range int64(12000) {
		s := somePack(rand.New(rand.NewSource(seed)))
		m, want := openModel(s)
		p, err := pack.Open(s)
		if err != want || (p != nil) != (err == api.OK) {
			t.Fatalf("seed %d: Open(%q): %v, %d; want %d", seed, s, p, err, want)
		}
		if opened[err]++; err != api.OK {
			continue
		}
		ids := []string{named(0), idOf(s)}
		for i, id := range p.IDs() {
			if i >= len(m) || id != m[i].id {
				t.Fatalf("seed %d: IDs: %.8x", seed, p.IDs())
			}
			ids = append(ids, id)
		}
		if len(ids) != len(m)+2 {
			t.Fatalf("seed %d: %d IDs, want %d", seed, len(ids)-2, len(m))
		}
		for _, id := range ids {
			want, wantErr := m.wantGet(id)
			if data, err := p.Get(id); data != want || err != wantErr {
				t.Fatalf("seed %d: Get(%.8x): %s, %d; want %s, %d", seed, id, short(data), err, short(want), wantErr)
			}
			depth, wantOK := m.wantDepth(id)
			if n, ok := p.Depth(id); n != depth || ok != wantOK {
				t.Fatalf("seed %d: Depth(%.8x): %d, %t; want %d, %t", seed, id, n, ok, depth, wantOK)
			}
			got[wantErr]++
		}
	}
	for _, err := range []api.Errno{api.OK, api.ErrForm, api.ErrShort, api.ErrTail, api.ErrOrder} {
		if opened[err] < 50 {
			t.Errorf("Open had the error %d %d times only", err, opened[err])
		}
	}
	for _, err := range []api.Errno{api.OK, api.ErrNone, api.ErrDeep, api.ErrCorrupt, api.ErrStale, api.ErrShort} {
		if got[err] < 200 {
			t.Errorf("Get had the error %d %d times only", err, got[err])
		}
	}
}
