package file_test

import (
	"fmt"
	"math/rand"
	"slices"
	"strings"
	"testing"

	"stemma/api"
	"stemma/file"
	"stemma/sector"
	"stemma/space"
)

// kept is what a model has in an entry: a file, or nothing if there is no name.
type kept struct {
	name, data string
	extents    []space.Extent
}

// model is a store by the words of the chapter, without a disk.
type model struct {
	used    []bool // units
	entries []kept
}

// modelOf returns the model of a store without files.
func modelOf(n, files int) model {
	return model{make([]bool, n-files-7), make([]kept, files)}
}

// copied returns a model of its own.
func (m model) copied() model { return model{slices.Clone(m.used), slices.Clone(m.entries)} }

// named returns the number of a file's entry; -1 if there is no such file.
func (m model) named(name string) int {
	return slices.IndexFunc(m.entries, func(f kept) bool { return f.name == name })
}

// good reports whether a name is valid.
func good(name string) bool {
	for i := range len(name) {
		if name[i] < 0x21 || name[i] > 0x7e {
			return false
		}
	}
	return len(name) > 0 && len(name) <= 80
}

// take allocates the k least free units in most extents; it reports whether that can be done.
func (m model) take(k, most int) ([]space.Extent, bool) {
	var at []int
	for i, used := range m.used {
		if !used && len(at) < k {
			at = append(at, i)
		}
	}
	var l []space.Extent
	for i, x := range at {
		if i > 0 && at[i-1] == x-1 {
			l[len(l)-1].N++
		} else {
			l = append(l, space.Extent{From: x, N: 1})
		}
	}
	if len(at) < k || len(l) > most {
		return nil, false
	}
	for _, x := range at {
		m.used[x] = true
	}
	return l, true
}

// vacate makes an entry a free one.
func (m model) vacate(i int) {
	for _, x := range m.entries[i].extents {
		for k := range x.N {
			m.used[x.From+k] = false
		}
	}
	m.entries[i] = kept{}
}

// op is a call that changes a store.
type op struct {
	kind, name, arg string // arg is the data, or the other name
}

func (o op) String() string { return fmt.Sprintf("%s(%.9q, %s)", o.kind, o.name, short(o.arg)) }

// on makes the call on a store.
func (o op) on(s *file.Store) api.Errno {
	switch o.kind {
	case "Write":
		return s.Write(o.name, o.arg)
	case "Append":
		return s.Append(o.name, o.arg)
	case "Rename":
		return s.Rename(o.name, o.arg)
	}
	return s.Remove(o.name)
}

// after returns the model after a call, and the call's error; beside one it is the model that it was.
func (m model) after(o op) (model, api.Errno) {
	x, at := m.copied(), m.named(o.name)
	switch {
	case !good(o.name) || o.kind == "Rename" && !good(o.arg):
		return m, api.ErrName
	case o.kind == "Write":
		return m.written(o)
	case at < 0:
		return m, api.ErrNone
	case o.kind == "Append":
		return m.appended(o, at)
	case o.kind == "Remove":
		x.vacate(at)
	case o.name != o.arg:
		if to := m.named(o.arg); to >= 0 {
			x.vacate(to)
		}
		x.entries[at].name = o.arg
	}
	return x, api.OK
}

func (m model) written(o op) (model, api.Errno) {
	x, at := m.copied(), m.named(o.name)
	if len(o.arg) > 1<<20 {
		return m, api.ErrLong
	}
	if at < 0 {
		at = m.named("")
	}
	extents, fits := x.take((len(o.arg)+511)/512, 64)
	if at < 0 || !fits {
		return m, api.ErrSpace
	}
	x.vacate(at)
	x.entries[at] = kept{o.name, o.arg, extents}
	return x, api.OK
}

func (m model) appended(o op, at int) (model, api.Errno) {
	x, f := m.copied(), m.entries[at]
	data := f.data + o.arg
	if len(data) > 1<<20 {
		return m, api.ErrLong
	}
	extents, fits := x.take((len(data)+511)/512-(len(f.data)+511)/512, 64-len(f.extents))
	if !fits {
		return m, api.ErrSpace
	}
	x.entries[at] = kept{o.name, data, slices.Concat(f.extents, extents)}
	return x, api.OK
}

// difference tells what of a store and its disk isn't as in the model; nothing if all is.
func (m model) difference(s *file.Store, d *sector.Disk) string {
	var names []string
	units, entries := 0, 0
	for _, used := range m.used {
		if !used {
			units++
		}
	}
	for _, f := range m.entries {
		if f.name == "" {
			entries++
			continue
		}
		names = append(names, f.name)
		if x, err := s.Read(f.name); x != f.data || err != api.OK {
			return fmt.Sprintf("Read(%s): %s, %d; want %s", f.name, short(x), err, short(f.data))
		}
		if n, err := s.Size(f.name); n != len(f.data) || err != api.OK {
			return fmt.Sprintf("Size(%s): %d, %d; want %d", f.name, n, err, len(f.data))
		}
	}
	slices.Sort(names)
	if l := s.Names(); !slices.Equal(l, names) {
		return fmt.Sprintf("Names: %q, want %q", l, names)
	}
	if x, y := s.Free(); x != units || y != entries {
		return fmt.Sprintf("Free: %d, %d; want %d, %d", x, y, units, entries)
	}
	return m.differenceOf(d)
}

// differenceOf tells what of a disk isn't as in the model.
func (m model) differenceOf(d *sector.Disk) string {
	files := len(m.entries)
	if s, _ := d.Read(0); s != headOf(len(m.used)+files+7, files) {
		return "the head"
	}
	var used []space.Extent
	for i, x := range m.used {
		if x {
			used = append(used, space.Extent{From: i, N: 1})
		}
	}
	if s, _ := d.Read(1); s != bitmapOf(used...) {
		return "the bitmap"
	}
	for i, f := range m.entries {
		want := full("")
		if f.name != "" {
			want = entryOf(f.name, len(f.data), f.extents...)
		}
		if s, _ := d.Read(2 + i); s != want {
			return fmt.Sprintf("entry %d: %.40q, want %.40q", i, s, want)
		}
		var b strings.Builder
		for _, x := range f.extents {
			for k := range x.N {
				s, _ := d.Read(7 + files + x.From + k)
				b.WriteString(s)
			}
		}
		if !strings.HasPrefix(b.String(), f.data) {
			return fmt.Sprintf("the units of entry %d", i)
		}
	}
	return ""
}

// someOp returns a call; most of the time it is one that can be executed.
func someOp(r *rand.Rand, most int) op {
	names := []string{"a", "b", "c", "d", "e", strings.Repeat("n", 80), "", "a b"}
	name := func() string {
		if r.Intn(20) == 0 {
			return names[r.Intn(len(names))]
		}
		return names[r.Intn(len(names)-2)]
	}
	data := text(r.Int(), r.Intn(most+1))
	if r.Intn(4) == 0 {
		data = data[:len(data)/512*512]
	}
	switch r.Intn(8) {
	case 0, 1, 2:
		return op{"Write", name(), data}
	case 3, 4, 5:
		return op{"Append", name(), data}
	case 6:
		return op{"Rename", name(), name()}
	}
	return op{"Remove", name(), ""}
}

// Random calls, one behind the other: their errors, what can be read after them, and where things are on the disk.
func TestAgainstTheModel(t *testing.T) {
	errors := map[api.Errno]int{}
	for seed := range int64(150) {
		r := rand.New(rand.NewSource(seed))
		files := 1 + r.Intn(6)
		n := files + 8 + r.Intn(60)
		m := modelOf(n, files)
		s, d := fresh(t, n, files)
		for step := range 80 {
			o := someOp(r, 300+r.Intn(5000))
			before, _ := d.Counts()
			next, want := m.after(o)
			if err := o.on(s); err != want {
				t.Fatalf("seed %d, step %d: %v: %d, want %d", seed, step, o, err, want)
			}
			if after, _ := d.Counts(); want != api.OK && after != before {
				t.Fatalf("seed %d, step %d: %v: it wrote, beside an error", seed, step, o)
			}
			m = next
			errors[want]++
			if r.Intn(10) == 0 {
				d.Crash(r.Intn(2), r.Intn(2))
				s = mount(t, d)
			}
			if x := m.difference(s, d); x != "" {
				t.Fatalf("seed %d, step %d: after %v: %s", seed, step, o, x)
			}
		}
	}
	for _, err := range []api.Errno{api.OK, api.ErrName, api.ErrNone, api.ErrSpace} {
		if errors[err] < 100 {
			t.Errorf("error %d came %d times only", err, errors[err])
		}
	}
}

// Two files that grow by turns are in many extents, up to as many as there may be.
func TestManyExtentsAgainstTheModel(t *testing.T) {
	for seed := range int64(6) {
		r := rand.New(rand.NewSource(seed))
		m := modelOf(411, 4)
		s, d := fresh(t, 411, 4)
		for step := range 400 {
			o := someOp(r, 900)
			if o.kind != "Append" && r.Intn(9) > 0 {
				o = op{"Append", []string{"a", "b", "c"}[r.Intn(3)], text(step, r.Intn(900))}
			}
			if step < 3 {
				o = op{"Write", []string{"a", "b", "c"}[step], ""}
			}
			next, want := m.after(o)
			if err := o.on(s); err != want {
				t.Fatalf("seed %d, step %d: %v: %d, want %d", seed, step, o, err, want)
			}
			m = next
			if x := m.difference(s, d); x != "" {
				t.Fatalf("seed %d, step %d: after %v: %s", seed, step, o, x)
			}
		}
		has := m.difference(mount(t, d), d)
		if has != "" {
			t.Errorf("seed %d: mounted: %s", seed, has)
		}
	}
}
