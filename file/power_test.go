package file_test

import (
	"fmt"
	"math/rand"
	"testing"

	"stemma/api"
	"stemma/file"
	"stemma/sector"
)

// P7.4

// keeps are some ways to keep writes.
var keeps = [][]int{nil, {1}, {1, 0}, {0, 1}, {0, 0, 1}, {1, 1, 0}}

// cuts makes a call with the power cut ahead of each of its commands, in each way to keep writes, on a disk with those
// sectors, until it isn't cut any more; it tells then the sectors that are left, and the call's error.
func cuts(t *testing.T, d *sector.Disk, sectors []string, call func() api.Errno, then func(left []string, err api.Errno)) {
	t.Helper()
	for _, keep := range keeps {
		for n := 1; ; n++ {
			put(d, sectors)
			d.Cut(n, keep...)
			err := call()
			cut := d.Off()
			d.On()
			then(content(t, d), err)
			if !cut {
				break
			}
		}
	}
}

// ready returns a store with files as a call may find them, and its model.
func ready(t *testing.T) (*file.Store, *sector.Disk, model) {
	t.Helper()
	s, d := fresh(t, 24, 5)
	m := modelOf(24, 5)
	for _, o := range []op{
		{"Write", "x", text(9, 600)},
		{"Write", "a", text(1, 700)},
		{"Write", "b", text(2, 512)},
		{"Write", "c", ""},
		{"Remove", "x", ""},
		{"Append", "b", text(3, 100)},
	} {
		ok(t, o.String(), o.on(s))
		m, _ = m.after(o)
	}
	if x := m.difference(s, d); x != "" {
		t.Fatal(x)
	}
	return s, d, m
}

var calls = []op{
	{"Write", "a", text(4, 1300)},
	{"Write", "a", ""},
	{"Write", "new", text(5, 900)},
	{"Write", "new", ""},
	{"Append", "a", text(6, 10)},
	{"Append", "a", text(6, 1000)},
	{"Append", "b", text(6, 412)},
	{"Append", "c", text(6, 1025)},
	{"Rename", "a", "new"},
	{"Rename", "a", "b"},
	{"Rename", "c", "a"},
	{"Remove", "a", ""},
	{"Remove", "c", ""},
}

// mounting mounts a disk, and tells only the error.
func mounting(d *sector.Disk) func() api.Errno {
	return func() api.Errno {
		_, err := file.Mount(d)
		return err
	}
}

// The power fails ahead of each command of each call, and of each Mount after that, twice.
func TestAllOrNothing(t *testing.T) {
	for _, o := range calls {
		s, d, before := ready(t)
		after, want := before.after(o)
		if want != api.OK {
			t.Fatalf("%v: the model has the error %d", o, want)
		}
		outcomes := map[bool]int{}
		call := func() api.Errno {
			s = mount(t, d)
			return o.on(s)
		}
		cuts(t, d, content(t, d), call, func(left []string, err api.Errno) {
			put(d, left)
			s := mount(t, d)
			none, all := before.difference(s, d), after.difference(s, d)
			if all != "" && (err == api.OK || none != "") {
				t.Errorf("%v: %d: neither all nor nothing was done: %s; %s", o, err, none, all)
			}
			outcomes[all == ""]++
			end := after
			if all != "" {
				end = before
			}
			cuts(t, d, left, mounting(d), func(left []string, _ api.Errno) {
				cuts(t, d, left, mounting(d), func(left []string, err api.Errno) {
					if err != api.OK {
						return
					}
					put(d, left)
					if x := end.difference(mount(t, d), d); x != "" {
						t.Errorf("%v: a Mount that was broken off changed the result: %s", o, x)
					}
				})
			})
		})
		if outcomes[true] < 10 || outcomes[false] < 10 {
			t.Errorf("%v: %d times all, %d times nothing", o, outcomes[true], outcomes[false])
		}
	}
}

// What a call has done that returned OK no power failure takes.
func TestDurable(t *testing.T) {
	for _, o := range calls {
		for _, keep := range keeps {
			s, d, m := ready(t)
			ok(t, o.String(), o.on(s))
			if _, writes := d.Counts(); writes != 0 {
				t.Errorf("%v: %d writes wait", o, writes)
			}
			d.Crash(keep...)
			m, _ = m.after(o)
			if x := m.difference(s, d); x != "" {
				t.Errorf("%v: after a power failure: %s", o, x)
			}
			if x := m.difference(mount(t, d), d); x != "" {
				t.Errorf("%v: mounted: %s", o, x)
			}
		}
	}
}

// The contents that a call leaves alone are not written at all while the power may fail in it.
func TestOtherUnitsStay(t *testing.T) {
	for _, o := range calls {
		s, d, m := ready(t)
		before := content(t, d)
		ok(t, o.String(), o.on(s))
		after := content(t, d)
		m, _ = m.after(o)
		for i, f := range m.entries {
			if f.name == "" || f.name == o.name || f.name == o.arg {
				continue
			}
			if before[2+i] != after[2+i] {
				t.Errorf("%v: the entry of %s changed", o, f.name)
			}
			for _, x := range f.extents {
				for k := range x.N {
					if at := 12 + x.From + k; before[at] != after[at] {
						t.Errorf("%v: unit %d of %s changed", o, x.From+k, f.name)
					}
				}
			}
		}
	}
}

// mountAtLast mounts a disk, after some times at which the power failed in that.
func mountAtLast(t *testing.T, r *rand.Rand, d *sector.Disk) *file.Store {
	t.Helper()
	for range r.Intn(3) {
		d.Cut(1+r.Intn(7), r.Intn(2), r.Intn(2))
		file.Mount(d)
		d.Crash(r.Intn(2))
	}
	return mount(t, d)
}

// Random calls on one disk, the power failing at random in them and in the Mounts after them.
func TestRandomFailures(t *testing.T) {
	failures := 0
	for seed := range int64(120) {
		r := rand.New(rand.NewSource(seed))
		files := 2 + r.Intn(5)
		n := files + 14 + r.Intn(40)
		m := modelOf(n, files)
		s, d := fresh(t, n, files)
		for step := range 80 {
			o := someOp(r, 100+r.Intn(4000))
			next, want := m.after(o)
			d.Cut(1+r.Intn(30), r.Intn(2), r.Intn(2), r.Intn(2))
			err := o.on(s)
			what := fmt.Sprintf("seed %d, step %d: %v: %d", seed, step, o, err)
			failed := d.Off()
			d.On()
			if !failed {
				is(t, what, err, want)
				m = next
			} else {
				failures++
				is(t, what, err, api.ErrPower)
				s = mountAtLast(t, r, d)
				if next.difference(s, d) == "" {
					m = next
				}
			}
			if x := m.difference(s, d); x != "" {
				t.Fatalf("%s: %s", what, x)
			}
		}
	}
	if failures < 1000 {
		t.Errorf("the power failed %d times only", failures)
	}
}

// Whatever the sectors hold, Mount and the calls after it end without a panic (P1).
func TestAnySectors(t *testing.T) {
	mounted := 0
	for seed := range int64(3000) {
		r := rand.New(rand.NewSource(seed))
		_, d, _ := ready(t)
		for range 1 + r.Intn(3) {
			spoil(r, d)
		}
		s, err := file.Mount(d)
		if (s != nil) != (err == api.OK) {
			t.Fatalf("seed %d: %v, %d", seed, s, err)
		}
		if s == nil {
			continue
		}
		mounted++
		for range 10 {
			someOp(r, 3000).on(s)
		}
		for _, name := range s.Names() {
			if _, err := s.Read(name); err != api.OK {
				t.Errorf("seed %d: Read(%s): %d", seed, name, err)
			}
		}
		if _, err := file.Mount(d); err != api.OK {
			t.Errorf("seed %d: it could be mounted, and after some calls not any more: %d", seed, err)
		}
	}
	if mounted < 100 {
		t.Errorf("%d could be mounted", mounted)
	}
}

// spoil changes a sector of such a disk: some bytes of it, or all of an entry, whose checksum is right then.
func spoil(r *rand.Rand, d *sector.Disk) {
	i := r.Intn(24)
	s, _ := d.Read(i)
	b := []byte(s)
	for range 1 + r.Intn(4) {
		b[r.Intn(60)] = byte(r.Intn(256))
	}
	if 2 <= i && i < 7 {
		b = []byte(sealed(string(b[:r.Intn(100)])))
	}
	d.Spoil(i, string(b))
}
