package shelf_test

import (
	"slices"
	"strconv"
	"testing"

	"stemma/api"
	"stemma/file"
	"stemma/sector"
)

// P15.3

// files says which files there must be, in any order.
func files(t *testing.T, what string, f *file.Store, names ...string) {
	t.Helper()
	slices.Sort(names)
	if l := f.Names(); !slices.Equal(l, names) {
		t.Errorf("%s: Names: %q, want %q", what, l, names)
	}
}

func TestRepack(t *testing.T) {
	s, f, d := fresh(t, 80, 20)
	a, b, c := text(1, 900), text(1, 900)+"b", text(2, 50)
	stored(t, s, a, b, c)
	ok(t, "Repack", s.Repack(idsOf(a, b)))
	holds(t, "the first pack", s, 0, 1, a, b)
	ungot(t, "not kept", s, idOf(c), api.ErrNone)
	if s.Has(idOf(c)) {
		t.Error("Has what was not kept")
	}
	p := packOf(t, a, b)
	files(t, "the first pack", f, packName(p))
	if x, err := f.Read(packName(p)); x != p || err != api.OK {
		t.Errorf("the file of the pack: %s, %d", short(x), err)
	}
	unchanged(t, "Repack of the same", d, func() { ok(t, "Repack", s.Repack(idsOf(b, a, b))) })
	stored(t, s, c, "x")
	ok(t, "Repack", s.Repack(idsOf(c, b, "x")))
	holds(t, "the second pack", s, 0, 1, b, c, "x")
	files(t, "the second pack", f, packName(packOf(t, "x", b, c)))
	holds(t, "opened again", open(t, mount(t, d)), 0, 1, b, c, "x")
	stored(t, s, a)
	ok(t, "Repack", s.Repack(nil))
	holds(t, "nothing is kept", s, 0, 0)
	files(t, "nothing is kept", f)
	unchanged(t, "Repack of nothing", d, func() { ok(t, "Repack", s.Repack([]string{})) })
	stored(t, s, a)
	holds(t, "put again", s, 1, 0, a)
	holds(t, "opened again", open(t, mount(t, d)), 1, 0, a)
}

// The chapter's example.
func TestRepackOfTwo(t *testing.T) {
	s, _, _ := fresh(t, 40, 8)
	stored(t, s, "abc", "def")
	ok(t, "Repack", s.Repack(idsOf("abc", "def")))
	shaped(t, "two", s, 0, 1)
}

func TestRepackOfSeveral(t *testing.T) {
	_, f, d := fresh(t, 80, 20)
	write(t, f, named(3), packOf(t, "a", "b", "c"))
	write(t, f, named(1), packOf(t, "c", "d", "e"))
	write(t, f, named(2), packOf(t))
	write(t, f, "other", "x")
	s := open(t, f)
	stored(t, s, "a", "f", "g")
	holds(t, "several", s, 2, 3, "a", "b", "c", "d", "e", "f", "g")
	ok(t, "Repack", s.Repack(idsOf("g", "a", "c", "e")))
	holds(t, "one", s, 0, 1, "a", "c", "e", "g")
	files(t, "one", f, packName(packOf(t, "a", "c", "e", "g")), "other")
	holds(t, "opened again", open(t, mount(t, d)), 0, 1, "a", "c", "e", "g")
}

// If the pack's file is there, it is not written; the other files are removed all the same.
func TestRepackFinds(t *testing.T) {
	s, f, d := fresh(t, 40, 8)
	stored(t, s, "a", "b")
	ok(t, "Repack", s.Repack(idsOf("a", "b")))
	stored(t, s, "c")
	write(t, f, looseName("a"), "a")
	// Without an entry or a unit that is free, nothing could be written.
	for i := range 5 {
		write(t, f, "other"+strconv.Itoa(i), "")
	}
	n := commands(d)
	ok(t, "Repack", s.Repack(idsOf("a", "b")))
	if commands(d) == n {
		t.Error("no file was removed")
	}
	holds(t, "found", s, 0, 1, "a", "b")
	holds(t, "opened again", open(t, mount(t, d)), 0, 1, "a", "b")
}

// A file of the pack's name that has other texts does not stand for it: otherwise those that are kept would be lost.
func TestRepackOverOther(t *testing.T) {
	_, f, d := fresh(t, 40, 8)
	write(t, f, packName(packOf(t, "a", "b")), packOf(t, "c"))
	s := open(t, f)
	stored(t, s, "a", "b")
	ok(t, "Repack", s.Repack(idsOf("a", "b")))
	holds(t, "over another", s, 0, 1, "a", "b")
	holds(t, "opened again", open(t, mount(t, d)), 0, 1, "a", "b")
}

func TestRepackRefuses(t *testing.T) {
	_, f, d := fresh(t, 60, 12)
	least, greatest := string(slices.Repeat([]byte{0}, 32)), string(slices.Repeat([]byte{0xff}, 32))
	write(t, f, named(1), onePack(greatest, "other"))
	write(t, f, named(2), brokenPack(idOf("broken")))
	s := open(t, f)
	stored(t, s, "a", "b")
	ids := append(idsOf("a", "b", "broken"), greatest)
	for _, x := range []struct {
		what string
		keep []string
		want api.Errno
	}{
		{"no ID", []string{""}, api.ErrArg},
		{"no ID", []string{idOf("a"), idOf("b"), idOf("b")[:31]}, api.ErrArg},
		{"no ID", []string{idOf("a") + "\x00", idOf("a")}, api.ErrArg},
		{"no text", idsOf("a", "none", "b"), api.ErrNone},
		{"another text", []string{idOf("a"), greatest}, api.ErrCorrupt},
		{"a broken chain", idsOf("a", "broken"), api.ErrCorrupt},
		// the error of the least ID
		{"two errors", []string{greatest, least}, api.ErrNone},
		{"two errors", []string{greatest, ""}, api.ErrArg},
		{"two errors", []string{greatest + "\x00", greatest}, api.ErrCorrupt},
		{"two errors", []string{least + "x", least, idOf("a")}, api.ErrNone},
		{"two errors", []string{least, least[:31]}, api.ErrArg},
	} {
		given := slices.Clone(x.keep)
		unchanged(t, x.what, d, func() { is(t, x.what, s.Repack(x.keep), x.want) })
		if !slices.Equal(x.keep, given) {
			t.Errorf("%s: Repack has changed its argument", x.what)
		}
		listed(t, x.what, s, ids...)
		shaped(t, x.what, s, 2, 2)
	}
	ok(t, "Repack", s.Repack(idsOf("b", "a", "a")))
	holds(t, "without those", s, 0, 1, "a", "b")
}

// What Make refuses, Repack does.
func TestRepackTooLong(t *testing.T) {
	s, f, d := fresh(t, 4096, 20)
	var texts []string
	for i := range 4 {
		texts = append(texts, text(i, maxData))
	}
	stored(t, s, texts...)
	unchanged(t, "more than a file's bytes", d, func() { is(t, "Repack", s.Repack(idsOf(texts...)), api.ErrLong) })
	holds(t, "too long", s, 4, 0, texts...)
	ok(t, "Repack", s.Repack(idsOf(texts[1:]...)))
	holds(t, "just not too long", s, 0, 1, texts[1:]...)
	long := text(5, maxData+1)
	write(t, f, looseName(long), long)
	unchanged(t, "too long a text", d, func() { is(t, "Repack", s.Repack(idsOf(long)), api.ErrLong) })
	holds(t, "too long a text", s, 1, 1, append(texts[1:], long)...)
}

// Two packs may have more IDs than one.
func TestRepackOfTooMany(t *testing.T) {
	_, f, d := fresh(t, 4096, 20)
	var texts []string
	for i := range api.MaxItems {
		texts = append(texts, strconv.Itoa(i))
	}
	write(t, f, named(1), packOf(t, texts...))
	s := open(t, f)
	stored(t, s, "x")
	unchanged(t, "too many", d, func() { is(t, "Repack", s.Repack(s.IDs()), api.ErrLong) })
	shaped(t, "too many", s, 1, 1)
	ok(t, "Repack", s.Repack(idsOf(append(texts[1:], "x")...)))
	shaped(t, "as many as there may be", s, 0, 1)
	if n := len(s.IDs()); n != api.MaxItems {
		t.Errorf("%d IDs", n)
	}
	got(t, "as many as there may be", s, "x", "1", "4095")
}

// Old and new must both have room.
func TestRepackWithoutSpace(t *testing.T) {
	for free := range 6 {
		const units = 20
		s, f, d := fresh(t, 8+7+units, 8)
		a, b := text(1, 1500), text(2, 1000) // five units; a pack of them has 2604 bytes, six units
		stored(t, s, a, b)
		write(t, f, "other", text(3, 512*(units-5-free)))
		unchanged(t, "no space", d, func() { is(t, "Repack", s.Repack(idsOf(a, b)), api.ErrSpace) })
		holds(t, "no space", s, 2, 0, a, b)
		ok(t, "Remove", f.Remove("other"))
		write(t, f, "other", text(3, 512*(units-5-6)))
		ok(t, "Repack", s.Repack(idsOf(a, b)))
		holds(t, "enough space", s, 0, 1, a, b)
		holds(t, "opened again", open(t, mount(t, d)), 0, 1, a, b)
	}
	// No entry for the pack.
	s, f, d := fresh(t, 40, 4)
	stored(t, s, "a", "b")
	write(t, f, "other", "")
	write(t, f, "another", "")
	unchanged(t, "no entry", d, func() { is(t, "Repack", s.Repack(idsOf("a", "b")), api.ErrSpace) })
	holds(t, "no entry", s, 2, 0, "a", "b")
	ok(t, "Repack", s.Repack(nil))
	holds(t, "nothing is kept", s, 0, 0)
}

// P15.4

// keeps are some ways to keep writes.
var keeps = [][]int{nil, {1}, {1, 0}, {0, 1}, {0, 0, 1}, {1, 1, 0}}

// cuts makes a call with the power cut ahead of each of its commands, in each way to keep writes, on a disk with those
// sectors, until it isn't cut any more; then tells what is left, and how the call ended.
func cuts(t *testing.T, d *sector.Disk, sectors []string, call func() api.Errno, then func(left []string, err api.Errno)) {
	t.Helper()
	for _, keep := range keeps {
		for n := 1; ; n++ {
			lay(d, sectors)
			d.Cut(n, keep...)
			err := call()
			cut := d.Off()
			d.On()
			then(content(t, d), err)
			if !cut {
				break
			}
		}
	}
}

// opening mounts a disk, and opens its store.
func opening(t *testing.T, d *sector.Disk) func() api.Errno {
	return func() api.Errno {
		f, err := file.Mount(d)
		if err == api.OK {
			_, err = openFiles(f)
		}
		return err
	}
}

// outcome is what a Get returned.
type outcome struct {
	data string
	err  api.Errno
}

// outcomes returns what Gets return after all has been opened.
func outcomes(t *testing.T, d *sector.Disk, ids []string) []outcome {
	t.Helper()
	s := open(t, mount(t, d))
	var l []outcome
	for _, id := range ids {
		data, err := s.Get(id)
		l = append(l, outcome{data, err})
	}
	return l
}

// survived says that what was kept is as before, and all else as before or gone.
func survived(t *testing.T, what string, d *sector.Disk, keep, ids []string, before []outcome, done bool) {
	t.Helper()
	for i, x := range outcomes(t, d, ids) {
		switch kept := slices.Contains(keep, ids[i]); {
		case !kept && x.err == api.ErrNone:
		case !kept && done:
			t.Errorf("%s: %.8x is left", what, ids[i])
		case x != before[i]:
			t.Errorf("%s: Get(%.8x): %s, %d; before %s, %d", what, ids[i], short(x.data), x.err, short(before[i].data), before[i].err)
		}
	}
}

// The power fails ahead of each command of a Repack, and of each Open after that.
func TestNothingIsLost(t *testing.T) {
	a, b, c := text(1, 700), text(1, 700)+"b", text(2, 600)
	for what, x := range map[string]struct {
		packs [][]string
		loose []string
		keep  []string
	}{
		"all":               {nil, []string{a, b, c}, idsOf(a, b, c)},
		"some":              {nil, []string{a, b, c}, idsOf(a, c)},
		"none":              {[][]string{{a, b}, {c}}, []string{c, "d"}, nil},
		"a pack and loose":  {[][]string{{a, b}}, []string{c}, idsOf(a, c)},
		"two packs":         {[][]string{{a, b}, {b, c}}, []string{"d", a}, idsOf(b, c, "d")},
		"the packs are it":  {[][]string{{a, b, c}, {b}}, []string{c, "d"}, idsOf(a, b, c)},
		"nothing but packs": {[][]string{{a}, {b}}, nil, idsOf(a, b)},
	} {
		_, f, d := fresh(t, 44, 8)
		for _, l := range x.packs {
			p := packOf(t, l...)
			write(t, f, packName(p), p)
		}
		s := open(t, f)
		for _, data := range x.loose {
			write(t, f, looseName(data), data)
		}
		ids := append(s.IDs(), idOf("none"))
		before := outcomes(t, d, ids)
		call := func() api.Errno { return open(t, mount(t, d)).Repack(x.keep) }
		times := map[api.Errno]int{}
		cuts(t, d, content(t, d), call, func(left []string, err api.Errno) {
			times[err]++
			survived(t, what, d, x.keep, ids, before, err == api.OK)
			if times[api.ErrPower]%5 == 1 {
				cuts(t, d, left, opening(t, d), func(_ []string, _ api.Errno) {
					survived(t, what+", Open broken off", d, x.keep, ids, before, err == api.OK)
				})
			}
		})
		if times[api.OK] != len(keeps) || times[api.ErrPower] < 20*len(keeps) {
			t.Errorf("%s: %v", what, times)
		}
	}
}

// A Repack that was broken off is made up for by the next one.
func TestRepackAgain(t *testing.T) {
	a, b := text(1, 700), text(2, 600)
	s, f, d := fresh(t, 44, 8)
	write(t, f, named(5), packOf(t, b, "c"))
	stored(t, s, a, "d")
	call := func() api.Errno { return open(t, mount(t, d)).Repack(idsOf(a, b)) }
	cuts(t, d, content(t, d), call, func(_ []string, _ api.Errno) {
		s := open(t, mount(t, d))
		ok(t, "Repack", s.Repack(idsOf(a, b)))
		holds(t, "again", s, 0, 1, a, b)
		s = open(t, mount(t, d))
		holds(t, "again, opened", s, 0, 1, a, b)
	})
}
