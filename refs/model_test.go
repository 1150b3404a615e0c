package refs_test

import (
	"fmt"
	"math/rand"
	"slices"
	"testing"

	"stemma/api"
	"stemma/file"
	"stemma/names"
	"stemma/refs"
	"stemma/sector"
)

// plain does what the chapter says, by calls of layers 7 and 16 alone.
type plain struct {
	f     *file.Store
	table names.Table
}

func (p *plain) format(head string) api.Errno {
	if !names.Branch(head) {
		return api.ErrName
	}
	if slices.Contains(p.f.Names(), "refs") {
		return api.ErrExists
	}
	return p.f.Write("refs", whole(names.Table{Head: head}))
}

func (p *plain) update(l []names.Update, head string) api.Errno {
	next, err := p.table.Apply(l, head)
	if err != api.OK {
		return err
	}
	before, err := p.f.Read("refs")
	if err != api.OK {
		return err
	}
	if c := change(l, head); len(before)+len(c) <= 8192 {
		err = p.f.Append("refs", c)
	} else {
		err = p.f.Write("refs", whole(next))
	}
	if err == api.OK {
		p.table = next
	}
	return err
}

// twins are a table and what it must be equal to, each on a disk of its own.
type twins struct {
	r    *refs.Refs
	f    *file.Store
	d    *sector.Disk
	p    plain
	like *sector.Disk
}

// both makes a call on each of the two.
func (x *twins) both(call func(d *sector.Disk, f *file.Store)) {
	call(x.d, x.f)
	call(x.like, x.p.f)
}

// difference tells in what the two differ.
func (x *twins) difference(t *testing.T) string {
	t.Helper()
	if commands(x.d) != commands(x.like) {
		return "the commands"
	}
	if !slices.Equal(content(t, x.d), content(t, x.like)) {
		return "the sectors"
	}
	if x.r != nil && !same(x.r.Table(), x.p.table) {
		return "the table"
	}
	return ""
}

// reopen mounts both, and makes them again if they have no file yet. Of a table whose call was broken off it tells
// whether it is as one of those that it may be.
func (x *twins) reopen(t *testing.T, may ...names.Table) bool {
	t.Helper()
	x.f, x.p.f = mount(t, x.d), mount(t, x.like)
	if !slices.Contains(x.f.Names(), "refs") {
		is(t, "Format", refs.Format(x.f, "heads/main"), x.p.format("heads/main"))
	}
	x.r = open(t, x.f)
	x.p.table = x.r.Table()
	return len(may) == 0 || slices.ContainsFunc(may, func(y names.Table) bool { return same(y, x.p.table) })
}

// someUpdates returns updates of a table, most of which are possible.
func someUpdates(r *rand.Rand, x names.Table) []names.Update {
	var l []names.Update
	for range []int{0, 1, 1, 2, 3, 30}[r.Intn(6)] {
		name := fmt.Sprintf("%s/%d", []string{"heads", "tags"}[r.Intn(2)], r.Intn(60))
		old, _ := x.Get(name)
		u := names.Update{Name: name, Old: old, New: []string{"", id('A'), id('B'), id(byte(r.Intn(256)))}[r.Intn(4)]}
		if r.Intn(100) == 0 {
			u.Old = id('A')
		}
		if !slices.ContainsFunc(l, func(v names.Update) bool { return v.Name == u.Name }) && (u.Old != u.New || r.Intn(20) == 0) {
			l = append(l, u)
		}
	}
	return l
}

// Random calls, the power failing at random in them, do to the disk what the chapter says, command by command.
func TestAsLayer7(t *testing.T) {
	outcomes := map[string]int{}
	for seed := range int64(60) {
		r := rand.New(rand.NewSource(seed))
		files := 2 + r.Intn(3)
		n := files + 8 + 2 + r.Intn(60)
		x := &twins{d: formatted(t, n, files), like: formatted(t, n, files)}
		x.reopen(t)
		for step := range 120 {
			if r.Intn(4) == 0 {
				cut, keep := 1+r.Intn(40), []int{r.Intn(2), r.Intn(2), r.Intn(2)}
				x.both(func(d *sector.Disk, _ *file.Store) { d.Cut(cut, keep...) })
			}
			what := fmt.Sprintf("seed %d, step %d", seed, step)
			before := x.p.table
			l, head := someUpdates(r, before), []string{"", "", "", "heads/a", "heads/b", "tags/a"}[r.Intn(6)]
			err, want := x.r.Update(l, head), x.p.update(l, head)
			if err != want {
				t.Fatalf("%s: Update(%q, %s): %d, want %d", what, l, head, err, want)
			}
			if x.d.Off() != x.like.Off() {
				t.Fatalf("%s: the power", what)
			}
			failed := x.d.Off()
			x.both(func(d *sector.Disk, _ *file.Store) { d.On() })
			if y := x.difference(t); y != "" {
				t.Fatalf("%s: Update(%q, %s): other than the chapter's: %s", what, l, head, y)
			}
			outcomes[fmt.Sprint(err)]++
			if err == api.OK && text(t, x.f) == whole(x.p.table) {
				outcomes["anew"]++
			}
			if failed || r.Intn(10) == 0 {
				after, _ := before.Apply(l, head)
				may := []names.Table{x.p.table}
				if failed {
					may = []names.Table{before, after}
				}
				if !x.reopen(t, may...) {
					t.Fatalf("%s: opened again: %s", what, show(x.p.table))
				}
				if y := x.difference(t); y != "" {
					t.Fatalf("%s: opened again: other than the chapter's: %s", what, y)
				}
			}
		}
	}
	for _, x := range []any{api.OK, api.ErrArg, api.ErrName, api.ErrStale, api.ErrPower, api.ErrSpace, "anew"} {
		if outcomes[fmt.Sprint(x)] < 20 {
			t.Errorf("%v occurred %d times only", x, outcomes[fmt.Sprint(x)])
		}
	}
}
