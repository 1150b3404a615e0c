package refs_test

import (
	"math/rand"
	"slices"
	"testing"

	"stemma/api"
	"stemma/file"
	"stemma/names"
	"stemma/refs"
	"stemma/sector"
)

// P17.3

// keeps are some ways to keep writes.
var keeps = [][]int{nil, {1}, {1, 0}, {0, 1}, {0, 0, 1}, {1, 1, 0}}

// cuts makes a call with the power cut ahead of each of its commands, in each way to keep writes, on a disk with those
// sectors, until it isn't cut any more; then tells what is left, and how the call ended.
func cuts(t *testing.T, d *sector.Disk, sectors []string, call func() api.Errno, then func(left []string, err api.Errno)) {
	t.Helper()
	for _, keep := range keeps {
		for n := 1; ; n++ {
			lay(d, sectors)
			d.Cut(n, keep...)
			err := call()
			cut := d.Off()
			d.On()
			then(content(t, d), err)
			if !cut {
				break
			}
		}
	}
}

// opening mounts a disk, and opens its table.
func opening(d *sector.Disk) func() api.Errno {
	return func() api.Errno {
		f, err := file.Mount(d)
		if err == api.OK {
			_, err = refs.Open(f)
		}
		return err
	}
}

// full returns the text of a file to which not even a small change is appended, with its table.
func full(t *testing.T) (string, names.Table) {
	t.Helper()
	_, f, x := upTo(t, 8190)
	return text(t, f), x
}

// The power fails ahead of each command of each Update, and of each Open after that.
func TestAllOrNothing(t *testing.T) {
	long, fullTable := full(t)
	several := slices.Concat(one("heads/main", id('a'), id('c')), one("tags/v", id('b'), ""), one("heads/new", "", id('d')))
	for what, x := range map[string]struct {
		text   string
		before names.Table
		l      []names.Update
		head   string
	}{
		"a head":           {whole(small()), small(), nil, "heads/x"},
		"one":              {whole(small()), small(), several[:1], ""},
		"several":          {whole(small()), small(), several, "heads/new"},
		"into a next unit": {whole(small()) + change(nil, "heads/aaaaaaaaaaaaaaaaaaaaaaaaaaaaaaaaaaaaaaaaa") + change(nil, "heads/main"), small(), append(several, create("tags/new", 'e'), create("tags/newer", 'f'), create("tags/newest", 'g')), ""},
		"written anew":     {long, fullTable, several[2:], "heads/main"},
		"anew, a head":     {long, fullTable, nil, "heads/main"},
	} {
		_, _, d := holding(t, 60, x.text)
		after, err := x.before.Apply(x.l, x.head)
		ok(t, "Apply", err)
		outcomes := map[bool]int{}
		call := func() api.Errno { return open(t, mount(t, d)).Update(x.l, x.head) }
		cuts(t, d, content(t, d), call, func(left []string, err api.Errno) {
			end := open(t, mount(t, d)).Table()
			all := same(end, after)
			if !all && !same(end, x.before) {
				t.Errorf("%s: neither all nor nothing: %s", what, show(end))
			}
			if err == api.OK && !all || err != api.OK && err != api.ErrPower {
				t.Errorf("%s: %d: %s", what, err, show(end))
			}
			outcomes[all]++
			n := commands(d)
			is(t, what+": Open", opening(d)(), api.OK)
			if commands(d) == n {
				return // there is nothing that could be broken off
			}
			cuts(t, d, left, opening(d), func(_ []string, _ api.Errno) {
				if y := open(t, mount(t, d)).Table(); !same(y, end) {
					t.Errorf("%s, Open broken off: %s, want %s", what, show(y), show(end))
				}
			})
		})
		if outcomes[true] < 10 || outcomes[false] < 10 {
			t.Errorf("%s: %d times all, %d times nothing", what, outcomes[true], outcomes[false])
		}
	}
}

// The table in memory is as before a call that the power broke off, whatever the disk has.
func TestUpdateBrokenOff(t *testing.T) {
	for n := 1; ; n++ {
		r, _, d := holding(t, 40, whole(small()))
		l := one("heads/main", id('a'), id('c'))
		d.Cut(n, 1)
		err := r.Update(l, "")
		if !d.Off() {
			ok(t, "Update", err)
			if n < 5 {
				t.Errorf("%d commands", n-1)
			}
			break
		}
		d.On()
		is(t, "cut", err, api.ErrPower)
		is(t, "not opened again", r.Update(l, ""), api.ErrPower)
		is(t, "not opened again, another", r.Update(nil, "heads/x"), api.ErrPower)
		if x := r.Table(); !same(x, small()) {
			t.Errorf("cut: %s", show(x))
		}
	}
}

// The power fails in a Format: there is no file, or that of the table.
func TestFormatBrokenOff(t *testing.T) {
	d := formatted(t, 30, 4)
	outcomes := map[api.Errno]int{}
	call := func() api.Errno { return refs.Format(mount(t, d), "heads/main") }
	cuts(t, d, content(t, d), call, func(_ []string, err api.Errno) {
		f := mount(t, d)
		r, is := refs.Open(f)
		outcomes[is]++
		switch {
		case is == api.OK && same(r.Table(), names.Table{Head: "heads/main"}):
		case is == api.ErrNone && err != api.OK:
		default:
			t.Errorf("Format: %d, Open: %d", err, is)
		}
	})
	if outcomes[api.OK] < 10 || outcomes[api.ErrNone] < 10 {
		t.Errorf("%v", outcomes)
	}
}

// After a bit of a sector was changed, Open returns the table as it was, or an error.
func TestSpoiled(t *testing.T) {
	outcomes := map[api.Errno]int{}
	for seed := range int64(600) {
		r := rand.New(rand.NewSource(seed))
		x, _, d := fresh(t, 40, 4)
		for i := range 20 {
			is(t, "Update", x.Update(long(i, 1), ""), api.OK)
		}
		i := r.Intn(d.Size())
		sector, _ := d.Read(i)
		b := []byte(sector)
		b[r.Intn(len(b))] ^= 1 << r.Intn(8)
		d.Spoil(i, string(b))
		f, err := file.Mount(d)
		if err != api.OK {
			continue
		}
		y, err := refs.Open(f)
		outcomes[err]++
		if err == api.OK && !same(x.Table(), y.Table()) || err != api.OK && (err != api.ErrCorrupt || y != nil) {
			t.Errorf("seed %d: %d: %s", seed, err, show(y.Table()))
		}
	}
	if outcomes[api.OK] < 50 || outcomes[api.ErrCorrupt] < 10 {
		t.Errorf("%v", outcomes)
	}
}
