package loose_test

import (
	"crypto/sha256"
	"encoding/hex"
	"fmt"
	"math/rand"
	"slices"
	"testing"

	"stemma/api"
	"stemma/file"
	"stemma/loose"
	"stemma/sector"
)

// hexFile returns the name of the file of an ID.
func hexFile(id string) string { return "o" + hex.EncodeToString([]byte(id)) }

// plain does what the chapter says, by calls of layer 7 alone.
type plain struct {
	f                    *file.Store
	written, found, read int
}

func (p *plain) open() api.Errno {
	if err := p.f.Remove("tmp"); err != api.ErrNone {
		return err
	}
	return api.OK
}

func (p *plain) put(data string) (string, api.Errno) {
	if _, err := p.f.Read("tmp"); err == api.ErrPower {
		return "", err
	}
	if len(data) > maxData {
		return "", api.ErrLong
	}
	if slices.Contains(p.f.Names(), nameOf(data)) {
		p.found++
		return idOf(data), api.OK
	}
	if err := p.f.Write("tmp", data); err != api.OK {
		return "", err
	}
	if err := p.f.Rename("tmp", nameOf(data)); err != api.OK {
		return "", err
	}
	p.written++
	return idOf(data), api.OK
}

func (p *plain) get(id string) (string, api.Errno) {
	data, err := p.f.Read(hexFile(id))
	if err != api.OK {
		return "", err
	}
	if x := sha256.Sum256([]byte(data)); string(x[:]) != id {
		return "", api.ErrCorrupt
	}
	p.read++
	return data, api.OK
}

// twins are a store and what it must be equal to, each on a disk of its own.
type twins struct {
	s    *loose.Store
	f    *file.Store
	d    *sector.Disk
	p    plain
	like *sector.Disk
}

// both makes a call on each of the two.
func (x *twins) both(call func(d *sector.Disk, f *file.Store)) {
	call(x.d, x.f)
	call(x.like, x.p.f)
}

// reopen mounts and opens both.
func (x *twins) reopen(t *testing.T) {
	t.Helper()
	x.f, x.p = mount(t, x.d), plain{f: mount(t, x.like)}
	x.s = open(t, x.f)
	ok(t, "open", x.p.open())
}

// step makes one call on both, and returns what they answered.
func (x *twins) step(r *rand.Rand, texts []string) (string, string) {
	data := texts[r.Intn(len(texts))]
	id := idOf(data)
	switch r.Intn(8) {
	case 0, 1, 2:
		a, err := x.s.Put(data)
		b, like := x.p.put(data)
		return fmt.Sprintf("Put %x %d", a, err), fmt.Sprintf("Put %x %d", b, like)
	case 3, 4:
		a, err := x.s.Get(id)
		b, like := x.p.get(id)
		return fmt.Sprintf("Get %q %d", a, err), fmt.Sprintf("Get %q %d", b, like)
	case 5:
		return fmt.Sprint("Drop ", x.s.Drop(id)), fmt.Sprint("Drop ", x.p.f.Remove(hexFile(id)))
	case 6:
		return fmt.Sprint("Has ", x.s.Has(id)), fmt.Sprint("Has ", slices.Contains(x.p.f.Names(), hexFile(id)))
	}
	// Others use the files too.
	name := []string{"tmp", "other", hexFile(id)}[r.Intn(3)]
	x.both(func(_ *sector.Disk, f *file.Store) { f.Write(name, data) })
	return "", ""
}

// difference tells in what the two differ after a call.
func (x *twins) difference(t *testing.T) string {
	t.Helper()
	if commands(x.d) != commands(x.like) {
		return "the commands"
	}
	if !slices.Equal(content(t, x.d), content(t, x.like)) {
		return "the sectors"
	}
	var ids []string
	for _, name := range x.p.f.Names() {
		if b, err := hex.DecodeString(name[1:]); name[0] == 'o' && err == nil && len(b) == 32 {
			ids = append(ids, string(b))
		}
	}
	if !slices.Equal(x.s.List(), ids) {
		return "List"
	}
	if a, b, c := x.s.Counts(); a != x.p.written || b != x.p.found || c != x.p.read {
		return "Counts"
	}
	return ""
}

// Random calls, the power failing at random in them, do to the disk what the chapter says, command by command.
func TestAsLayer7(t *testing.T) {
	failures := 0
	for seed := range int64(150) {
		r := rand.New(rand.NewSource(seed))
		files := 2 + r.Intn(6)
		n := files + 14 + r.Intn(20)
		x := &twins{d: formatted(t, n, files), like: formatted(t, n, files)}
		x.reopen(t)
		var texts []string
		for i := range 8 {
			texts = append(texts, text(i, r.Intn(3000)))
		}
		for step := range 80 {
			cut, keep := 1+r.Intn(40), []int{r.Intn(2), r.Intn(2), r.Intn(2)}
			x.both(func(d *sector.Disk, _ *file.Store) { d.Cut(cut, keep...) })
			a, b := x.step(r, texts)
			what := fmt.Sprintf("seed %d, step %d: %.60s", seed, step, a)
			if a != b {
				t.Fatalf("%s: want %s", what, b)
			}
			failed := x.d.Off()
			x.both(func(d *sector.Disk, _ *file.Store) { d.On() })
			if y := x.difference(t); y != "" {
				t.Fatalf("%s: other than the chapter's: %s", what, y)
			}
			if failed {
				failures++
				x.reopen(t)
				if y := x.difference(t); y != "" {
					t.Fatalf("%s, opened again: other than the chapter's: %s", what, y)
				}
			}
		}
	}
	if failures < 500 {
		t.Errorf("the power failed %d times only", failures)
	}
}

// P12.4

// keeps are some ways to keep writes.
var keeps = [][]int{nil, {1}, {1, 0}, {0, 1}, {0, 0, 1}, {1, 1, 0}}

// cuts makes a call with the power cut ahead of each of its commands, in each way to keep writes, on a disk with those
// sectors, until it isn't cut any more; then tells what is left, and how the call ended.
func cuts(t *testing.T, d *sector.Disk, sectors []string, call func() api.Errno, then func(left []string, err api.Errno)) {
	t.Helper()
	for _, keep := range keeps {
		for n := 1; ; n++ {
			lay(d, sectors)
			d.Cut(n, keep...)
			err := call()
			cut := d.Off()
			d.On()
			then(content(t, d), err)
			if !cut {
				break
			}
		}
	}
}

// opening mounts a disk, and opens its store.
func opening(d *sector.Disk) func() api.Errno {
	return func() api.Errno {
		f, err := file.Mount(d)
		if err == api.OK {
			_, err = loose.Open(f)
		}
		return err
	}
}

// The power fails ahead of each command of each call, and of each Open after that.
func TestAllOrNothing(t *testing.T) {
	kept := []string{text(1, 700), "abc", ""}
	last := text(2, 900)
	for what, x := range map[string]struct {
		call          func(s *loose.Store) api.Errno
		before, after []string
	}{
		"Put":           {func(s *loose.Store) api.Errno { _, err := s.Put(text(3, 1300)); return err }, []string{last}, []string{last, text(3, 1300)}},
		"Put of little": {func(s *loose.Store) api.Errno { _, err := s.Put("x"); return err }, []string{last}, []string{last, "x"}},
		"Put again":     {func(s *loose.Store) api.Errno { _, err := s.Put("abc"); return err }, []string{last}, []string{last}},
		"Drop":          {func(s *loose.Store) api.Errno { return s.Drop(idOf(last)) }, []string{last}, nil},
	} {
		s, _, d := fresh(t, 32, 6)
		for _, data := range slices.Concat(kept, x.before) {
			stored(t, s, data)
		}
		outcomes := map[bool]int{}
		call := func() api.Errno { return x.call(open(t, mount(t, d))) }
		cuts(t, d, content(t, d), call, func(left []string, err api.Errno) {
			s := open(t, mount(t, d))
			all := slices.Equal(s.List(), sorted(kept, x.after))
			if err == api.OK && !all {
				t.Errorf("%s: OK, and not done", what)
			}
			outcomes[all]++
			want := x.before
			if all {
				want = x.after
			}
			holds(t, what, s, slices.Concat(kept, want)...)
			cuts(t, d, left, opening(d), func(_ []string, _ api.Errno) {
				holds(t, what+", Open broken off", open(t, mount(t, d)), slices.Concat(kept, want)...)
			})
		})
		if what != "Put again" && (outcomes[true] < 5 || outcomes[false] < 5) {
			t.Errorf("%s: %d times all, %d times nothing", what, outcomes[true], outcomes[false])
		}
	}
}

// sorted returns the IDs of texts, in ascending order.
func sorted(texts ...[]string) []string {
	var ids []string
	for _, data := range slices.Concat(texts...) {
		ids = append(ids, idOf(data))
	}
	slices.Sort(ids)
	return ids
}

// Whatever is written to sectors, while the store is open or ahead of it, what is got has the digest.
func TestSpoiled(t *testing.T) {
	outcomes := map[api.Errno]int{}
	for seed := range int64(400) {
		r := rand.New(rand.NewSource(seed))
		s, f, d := fresh(t, 40, 6)
		var ids []string
		for i := range 4 {
			data := text(i, r.Intn(2500))
			stored(t, s, data)
			ids = append(ids, idOf(data))
		}
		for range 1 + r.Intn(6) {
			i := r.Intn(d.Size())
			sector, _ := d.Read(i)
			b := []byte(sector)
			b[r.Intn(len(b))] ^= 1 << r.Intn(8)
			d.Spoil(i, string(b))
		}
		if r.Intn(2) == 0 {
			var err api.Errno
			if f, err = file.Mount(d); err != api.OK {
				continue
			}
			s = open(t, f)
		}
		for _, id := range ids {
			data, err := s.Get(id)
			if err == api.OK && idOf(data) != id {
				t.Errorf("seed %d: a text with another digest", seed)
			}
			if err != api.OK && data != "" {
				t.Errorf("seed %d: a text beside the error %d", seed, err)
			}
			outcomes[err]++
		}
	}
	if outcomes[api.OK] < 100 || outcomes[api.ErrCorrupt] < 100 {
		t.Errorf("%v", outcomes)
	}
}
