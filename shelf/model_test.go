package shelf_test

import (
	"encoding/hex"
	"fmt"
	"math/rand"
	"slices"
	"testing"

	"stemma/api"
	"stemma/file"
	"stemma/pack"
	"stemma/sector"
	"stemma/shelf"
)

// openFiles opens a shelf; its name is free for those that must open.
func openFiles(f *file.Store) (*shelf.Shelf, api.Errno) { return shelf.Open(f) }

// plain does what the chapter says, by calls of layers 7 and 14 alone: it keeps nothing from call to call.
type plain struct{ f *file.Store }

// named returns the names of files that begin with a letter and have the digits of 32 bytes.
func (p plain) named(letter byte) []string {
	var l []string
	for _, name := range p.f.Names() {
		b, err := hex.DecodeString(name[1:])
		if name[0] == letter && err == nil && len(b) == 32 && hex.EncodeToString(b) == name[1:] {
			l = append(l, name)
		}
	}
	return l
}

// pack opens the pack of a file.
func (p plain) pack(name string) (*pack.Pack, api.Errno) {
	text, err := p.f.Read(name)
	if err != api.OK {
		return nil, err
	}
	x, err := pack.Open(text)
	if err != api.OK {
		return nil, api.ErrCorrupt
	}
	return x, api.OK
}

func (p plain) open() api.Errno {
	if err := p.f.Remove("tmp"); err != api.ErrNone && err != api.OK {
		return err
	}
	for _, name := range p.named('p') {
		if _, err := p.pack(name); err != api.OK {
			return err
		}
	}
	return api.OK
}

func (p plain) ids() []string {
	var l []string
	for _, name := range p.named('o') {
		id, _ := hex.DecodeString(name[1:])
		l = append(l, string(id))
	}
	for _, name := range p.named('p') {
		x, _ := p.pack(name)
		l = append(l, x.IDs()...)
	}
	slices.Sort(l)
	return slices.Compact(l)
}

func (p plain) put(data string) (string, api.Errno) {
	id := idOf(data)
	switch _, err := p.f.Read("x"); {
	case err == api.ErrPower:
		return "", err
	case len(data) > maxData:
		return "", api.ErrLong
	case slices.Contains(p.ids(), id):
		return id, api.OK
	}
	if err := p.f.Write("tmp", data); err != api.OK {
		return "", err
	}
	if err := p.f.Rename("tmp", looseName(data)); err != api.OK {
		return "", err
	}
	return id, api.OK
}

func (p plain) get(id string) (string, api.Errno) {
	if len(id) != 32 {
		return "", api.ErrArg
	}
	if name := "o" + hex.EncodeToString([]byte(id)); slices.Contains(p.f.Names(), name) {
		data, err := p.f.Read(name)
		if err == api.OK && idOf(data) != id {
			return "", api.ErrCorrupt
		}
		return data, err
	}
	for _, name := range p.named('p') {
		if x, err := p.pack(name); err != api.OK {
			return "", err
		} else if slices.Contains(x.IDs(), id) {
			return x.Get(id)
		}
	}
	return "", api.ErrNone
}

func (p plain) repack(keep []string) api.Errno {
	keep = slices.Clone(keep)
	slices.Sort(keep)
	var texts []string
	for _, id := range slices.Compact(keep) {
		data, err := p.get(id)
		if err != api.OK {
			return err
		}
		texts = append(texts, data)
	}
	name := ""
	if len(texts) > 0 {
		text, err := pack.Make(texts)
		if err != api.OK {
			return err
		}
		name = packName(text)
		if !slices.Contains(p.f.Names(), name) {
			if err := p.f.Write("tmp", text); err != api.OK {
				return err
			}
			if err := p.f.Rename("tmp", name); err != api.OK {
				return err
			}
		}
	}
	for _, other := range slices.Concat(p.named('p'), p.named('o')) {
		if other != name {
			if err := p.f.Remove(other); err != api.OK {
				return err
			}
		}
	}
	return api.OK
}

// twins are a shelf and what it must be equal to, each on a disk of its own.
type twins struct {
	s    *shelf.Shelf
	f    *file.Store
	d    *sector.Disk
	p    plain
	like *sector.Disk
}

// both makes a call on each of the two.
func (x *twins) both(call func(d *sector.Disk, f *file.Store)) {
	call(x.d, x.f)
	call(x.like, x.p.f)
}

// reopen mounts and opens both.
func (x *twins) reopen(t *testing.T) {
	t.Helper()
	x.f, x.p = mount(t, x.d), plain{mount(t, x.like)}
	x.s = open(t, x.f)
	ok(t, "open", x.p.open())
}

// some returns IDs to keep.
func (x *twins) some(r *rand.Rand, texts []string) []string {
	ids := x.p.ids()
	r.Shuffle(len(ids), func(i, j int) { ids[i], ids[j] = ids[j], ids[i] })
	if r.Intn(3) > 0 {
		ids = ids[:r.Intn(len(ids)+1)]
	}
	switch r.Intn(12) {
	case 0:
		ids = append(ids, idOf(texts[r.Intn(len(texts))]))
	case 1:
		ids = append(ids, ids...)
	case 2:
		ids = append(ids, "no ID")
	}
	return ids
}

// step makes one call on both, and returns what they answered.
func (x *twins) step(r *rand.Rand, texts []string) (string, string) {
	data := texts[r.Intn(len(texts))]
	id := idOf(data)
	switch r.Intn(8) {
	case 0, 1, 2:
		a, err := x.s.Put(data)
		b, like := x.p.put(data)
		return fmt.Sprintf("Put %x %d", a, err), fmt.Sprintf("Put %x %d", b, like)
	case 3, 4:
		a, err := x.s.Get(id)
		b, like := x.p.get(id)
		return fmt.Sprintf("Get %q %d", a, err), fmt.Sprintf("Get %q %d", b, like)
	case 5:
		return fmt.Sprint("Has ", x.s.Has(id)), fmt.Sprint("Has ", slices.Contains(x.p.ids(), id))
	case 6:
		// Others use the files too.
		name := []string{"tmp", "other", "p", looseName(data)}[r.Intn(4)]
		x.both(func(_ *sector.Disk, f *file.Store) { f.Write(name, data) })
		return "", ""
	}
	keep := x.some(r, texts)
	return fmt.Sprint("Repack ", x.s.Repack(keep)), fmt.Sprint("Repack ", x.p.repack(keep))
}

// difference tells in what the two differ after a call; they must be opened for all but the disks.
func (x *twins) difference(t *testing.T, opened bool) string {
	t.Helper()
	if commands(x.d) != commands(x.like) {
		return "the commands"
	}
	if !slices.Equal(content(t, x.d), content(t, x.like)) {
		return "the sectors"
	}
	if !opened {
		return ""
	}
	if !slices.Equal(x.s.IDs(), x.p.ids()) {
		return "IDs"
	}
	if a, b := x.s.Shape(); a != len(x.p.named('o')) || b != len(x.p.named('p')) {
		return "Shape"
	}
	return ""
}

// moreTexts returns some that are much like one another, and some that are not.
func moreTexts(r *rand.Rand) []string {
	var texts []string
	base := text(1, 600)
	for i := range 6 {
		at := r.Intn(len(base))
		texts = append(texts, base[:at]+fmt.Sprint(i)+base[at:], text(i+2, r.Intn(1500)))
	}
	return texts
}

// somePack writes the file of a pack on both, which may have another text than its ID says.
func (x *twins) somePack(t *testing.T, r *rand.Rand, texts []string) {
	p := onePack(idOf(texts[0]), texts[r.Intn(2)])
	if r.Intn(4) > 0 {
		at := r.Intn(len(texts))
		p = packOf(t, texts[at:]...)
	}
	name := named(byte(r.Intn(256)))
	x.both(func(_ *sector.Disk, f *file.Store) { f.Write(name, p) })
}

// Random calls, the power failing at random in them, do to the disk what the chapter says, command by command.
func TestAsLayers(t *testing.T) {
	failures, answers := 0, map[string]int{}
	for seed := range int64(300) {
		r := rand.New(rand.NewSource(seed))
		files := 4 + r.Intn(8)
		n := files + 16 + r.Intn(40)
		x := &twins{d: formatted(t, n, files), like: formatted(t, n, files)}
		x.reopen(t)
		texts := moreTexts(r)
		for step := range 60 {
			if r.Intn(15) == 0 {
				x.somePack(t, r, texts)
				x.reopen(t)
			}
			cut, keep := 1+r.Intn(60), []int{r.Intn(2), r.Intn(2), r.Intn(2)}
			x.both(func(d *sector.Disk, _ *file.Store) { d.Cut(cut, keep...) })
			a, b := x.step(r, texts)
			what := fmt.Sprintf("seed %d, step %d: %.60s", seed, step, a)
			if a != b {
				t.Fatalf("%s: want %.60s", what, b)
			}
			failed := x.d.Off()
			x.both(func(d *sector.Disk, _ *file.Store) { d.On() })
			if y := x.difference(t, !failed); y != "" {
				t.Fatalf("%s: other than the chapter's: %s", what, y)
			}
			if answers[a]++; failed {
				failures++
				x.reopen(t)
				if y := x.difference(t, true); y != "" {
					t.Fatalf("%s, opened again: other than the chapter's: %s", what, y)
				}
			}
		}
	}
	if failures < 500 {
		t.Errorf("the power failed %d times only", failures)
	}
	for err, least := range map[api.Errno]int{api.OK: 200, api.ErrPower: 100, api.ErrSpace: 20, api.ErrNone: 5, api.ErrArg: 20, api.ErrCorrupt: 5} {
		if n := answers[fmt.Sprint("Repack ", err)]; n < least {
			t.Errorf("Repack had the error %d %d times only", err, n)
		}
	}
}

// What is read has the digest, whatever is written to sectors while the shelf is open, or ahead of it.
func TestSpoiled(t *testing.T) {
	seen := map[api.Errno]int{}
	for seed := range int64(400) {
		r := rand.New(rand.NewSource(seed))
		s, _, d := fresh(t, 50, 8)
		texts := moreTexts(r)[:8]
		stored(t, s, texts[:5]...)
		ok(t, "Repack", s.Repack(s.IDs()))
		stored(t, s, texts[5:7]...)
		for range 1 + r.Intn(4) {
			i := r.Intn(d.Size())
			sector, _ := d.Read(i)
			b := []byte(sector)
			b[r.Intn(len(b))] ^= 1 << r.Intn(8)
			d.Spoil(i, string(b))
		}
		if r.Intn(2) == 0 {
			f, err := file.Mount(d)
			if err != api.OK {
				continue
			}
			if s, err = shelf.Open(f); err != api.OK {
				is(t, "Open", err, api.ErrCorrupt)
				seen[err]++
				continue
			}
		}
		for _, data := range texts {
			x, err := s.Get(idOf(data))
			if err == api.OK && x != data || err != api.OK && x != "" {
				t.Errorf("seed %d: Get of %s: %s, %d", seed, short(data), short(x), err)
			}
			seen[err]++
		}
	}
	if seen[api.OK] < 100 || seen[api.ErrCorrupt] < 50 {
		t.Errorf("%v", seen)
	}
}
