package file_test

import (
	"fmt"
	"math"
	"slices"
	"strings"
	"testing"

	"stemma/api"
	"stemma/file"
	"stemma/sector"
	"stemma/space"
)

// P7.1: Format

func TestFormatRefuses(t *testing.T) {
	for _, x := range []struct{ n, files int }{
		{100, 0}, {100, -1}, {100, math.MinInt}, {4096, 257}, {4096, 256 + 1<<16}, {4096, math.MaxInt}, {4096, math.MaxInt - 7},
		{11, 4}, {8, 1}, {1, 1}, {263, 256}, {100, 93}, {100, 99}, {100, 100}, {100, 256},
	} {
		d := disk(t, x.n)
		before := content(t, d)
		what := fmt.Sprintf("Format of %d sectors for %d files", x.n, x.files)
		is(t, what, file.Format(d, x.files), api.ErrArg)
		if done, writes := d.Counts(); done != 0 || writes != 0 || !slices.Equal(content(t, d), before) {
			t.Errorf("%s wrote", what)
		}
		off(d)
		is(t, what+" without power", file.Format(d, x.files), api.ErrArg)
	}
	is(t, "Format of no disk", file.Format(nil, 4), api.ErrArg)
	is(t, "Format of no disk for no files", file.Format(nil, 0), api.ErrArg)
	is(t, "Format of an empty disk", file.Format(new(sector.Disk), 1), api.ErrArg)
}

// sizes are disks with as few and as many data units as there may be, and others.
var sizes = []struct{ n, files, units int }{
	{20, 4, 9}, {9, 1, 1}, {12, 4, 1}, {13, 4, 2}, {264, 256, 1}, {100, 92, 1}, {4096, 1, 4088}, {4096, 256, 3833}, {300, 255, 38},
}

func TestFormat(t *testing.T) {
	for _, x := range sizes {
		d := disk(t, x.n)
		want := content(t, d)
		want[0] = headOf(x.n, x.files)
		for i := 1; i <= 2+x.files; i++ {
			want[i] = full("")
		}
		is(t, "Format", file.Format(d, x.files), api.OK)
		if done, writes := d.Counts(); done != x.files+4 || writes != 0 {
			t.Errorf("%d sectors for %d files: %d commands, %d writes wait", x.n, x.files, done, writes)
		}
		d.Crash()
		if !slices.Equal(content(t, d), want) {
			t.Errorf("%d sectors for %d files: the sectors aren't as they should be", x.n, x.files)
		}
	}
}

// The power fails ahead of each command of Format: the head, the bitmap, the entries and the log are written in order.
func TestCommandsOfFormat(t *testing.T) {
	const n, files = 14, 3
	for done := range files + 4 {
		for _, keep := range []int{0, 1} {
			d := disk(t, n)
			want := content(t, d)
			for i := range done * keep {
				want[i] = full("")
			}
			if done*keep > 0 {
				want[0] = headOf(n, files)
			}
			d.Cut(done+1, keep)
			is(t, "Format that is cut", file.Format(d, files), api.ErrPower)
			if x, _ := d.Counts(); x != done {
				t.Errorf("cut ahead of command %d: %d were executed", done, x)
			}
			is(t, "Format without power", file.Format(d, files), api.ErrPower)
			d.On()
			if !slices.Equal(content(t, d), want) {
				t.Errorf("cut ahead of command %d, keep %d: the sectors aren't as they should be", done, keep)
			}
		}
	}
}

func TestFormatOfAStore(t *testing.T) {
	s, d := fresh(t, 20, 4)
	ok(t, "Write", s.Write("a", text(1, 900)))
	ok(t, "Write", s.Write("b", ""))
	describe(d, 4, []int{2}, []string{entryOf("c", 0)})
	is(t, "Format", file.Format(d, 4), api.OK)
	s = mount(t, d)
	has(t, "formatted again", s)
	free(t, "formatted again", s, 9, 4)
	is(t, "Format for other files", file.Format(d, 5), api.OK)
	s = mount(t, d)
	free(t, "formatted for 5 files", s, 8, 5)
}

// P7.1: Mount

func TestMountOfFormatted(t *testing.T) {
	for _, x := range sizes {
		d := formatted(t, x.n, x.files)
		done, _ := d.Counts()
		s := mount(t, d)
		has(t, "formatted", s)
		free(t, "formatted", s, x.units, x.files)
		if after, writes := d.Counts(); after != done || writes != 0 {
			t.Errorf("Mount wrote: %d commands, %d writes", after-done, writes)
		}
	}
}

// mountFails says that Mount must refuse, and write nothing.
func mountFails(t *testing.T, what string, d *sector.Disk, want api.Errno) {
	t.Helper()
	before := content(t, d)
	done, _ := d.Counts()
	if s, err := file.Mount(d); s != nil || err != want {
		t.Errorf("%s: Mount: %v, %d; want %d", what, s, err, want)
	}
	if n, writes := d.Counts(); n != done || writes != 0 || !slices.Equal(content(t, d), before) {
		t.Errorf("%s: Mount wrote", what)
	}
}

func TestMountRefuses(t *testing.T) {
	if s, err := file.Mount(nil); s != nil || err != api.ErrArg {
		t.Errorf("Mount of no disk: %v, %d", s, err)
	}
	if s, err := file.Mount(new(sector.Disk)); s != nil || err != api.ErrArg {
		t.Errorf("Mount of an empty disk: %v, %d", s, err)
	}
	d, _ := sector.New(20)
	mountFails(t, "a new disk", d, api.ErrForm)
	d, _ = sector.New(1)
	mountFails(t, "a disk of one sector", d, api.ErrForm)
	for _, d := range []*sector.Disk{disk(t, 20), formatted(t, 20, 4)} {
		off(d)
		if s, err := file.Mount(d); s != nil || err != api.ErrPower {
			t.Errorf("Mount without power: %v, %d", s, err)
		}
	}
}

func TestMountOfOtherHeads(t *testing.T) {
	head := headOf(20, 4)
	for what, x := range map[string]string{
		"nothing":              "",
		"another mark":         "SG" + head[2:],
		"another mark first":   "sF" + head[2:],
		"more sectors":         headOf(21, 4),
		"fewer sectors":        headOf(19, 4),
		"other sectors":        headOf(20+256, 4),
		"no files":             headOf(20, 0),
		"too many files":       headOf(20, 13),
		"far too many files":   headOf(20, 257),
		"any number of files":  headOf(20, 65535),
		"little-endian":        "SF\x14\x00\x04\x00",
		"a byte behind":        head[:6] + "\x01",
		"a byte at the end":    head[:511] + "\x01",
		"only bytes FF":        strings.Repeat("\xff", 512),
		"the mark alone":       "SF",
		"the sectors alone":    "SF\x00\x14",
		"one byte too far":     "\x00" + head[:511],
		"four bytes each":      "SF\x00\x00\x00\x14\x00\x00\x00\x04",
		"a checksum behind it": sealed(head[:6]),
	} {
		d := formatted(t, 20, 4)
		// The head comes ahead of the log, and ahead of what is corrupt.
		describe(d, 4, []int{2}, []string{entryOf("c", 0)})
		d.Spoil(1, "\x01")
		d.Spoil(0, x)
		mountFails(t, what, d, api.ErrForm)
	}
	// The head of a disk on which there is no unit for data.
	d := formatted(t, 20, 12)
	d.Spoil(0, headOf(20, 13))
	mountFails(t, "no data units", d, api.ErrForm)
	d.Spoil(0, headOf(20, 12))
	free(t, "one data unit", mount(t, d), 1, 12)
	d = formatted(t, 4096, 256)
	d.Spoil(0, headOf(4096, 257))
	mountFails(t, "257 files", d, api.ErrForm)
}

func TestMountMakesChanges(t *testing.T) {
	data := text(1, 700)
	x := []space.Extent{{From: 3, N: 1}, {From: 1, N: 1}}
	describes := func() *sector.Disk {
		d := formatted(t, 20, 4)
		d.Spoil(11+3, data[:512])
		describe(d, 4, []int{5, 12, 1}, []string{entryOf("a", 700, x...), data[512:], bitmapOf(x...)})
		return d
	}
	s := mount(t, describes())
	has(t, "made", s, "a", data)
	free(t, "made", s, 7, 3)
	for n := 1; n <= 6; n++ {
		for _, keep := range []int{0, 1} {
			d := describes()
			d.Cut(n, keep)
			if s, err := file.Mount(d); s != nil || err != api.ErrPower {
				t.Errorf("cut ahead of command %d: %v, %d", n, s, err)
			}
			d.On()
			has(t, "made at last", mount(t, d), "a", data)
		}
	}
	// What is corrupt is told of the disk after the changes; these have been made.
	d := describes()
	d.Spoil(2, "no entry")
	if s, err := file.Mount(d); s != nil || err != api.ErrCorrupt {
		t.Errorf("%v, %d", s, err)
	}
	if s, _ := d.Read(6); s != full("") {
		t.Error("the changes weren't made")
	}
	describe(d, 4, []int{2}, []string{""})
	has(t, "mended", mount(t, d), "a", data)
}

// fragments returns n extents of one unit each, none of which are adjacent.
func fragments(n int) []space.Extent {
	l := make([]space.Extent, n)
	for i := range l {
		l[i] = space.Extent{From: 2 * i, N: 1}
	}
	return l
}

// entries are sectors of entries by their numbers.
type entries map[int]string

func TestMountTakes(t *testing.T) {
	for what, x := range map[string]struct {
		entries entries
		used    []space.Extent
		names   []string
	}{
		"no file":          {},
		"an empty one":     {entries{0: entryOf("a", 0)}, nil, []string{"a"}},
		"the last entry":   {entries{9: entryOf("a", 1, space.Extent{From: 0, N: 1})}, []space.Extent{{From: 0, N: 1}}, []string{"a"}},
		"the last unit":    {entries{3: entryOf("a", 512, space.Extent{From: 4078, N: 1})}, []space.Extent{{From: 4078, N: 1}}, []string{"a"}},
		"a byte more":      {entries{0: entryOf("a", 513, space.Extent{From: 7, N: 2})}, []space.Extent{{From: 7, N: 2}}, []string{"a"}},
		"adjacent extents": {entries{0: entryOf("a", 1500, space.Extent{From: 7, N: 2}, space.Extent{From: 9, N: 1})}, []space.Extent{{From: 7, N: 3}}, []string{"a"}},
		"falling extents":  {entries{0: entryOf("a", 1537, space.Extent{From: 9, N: 3}, space.Extent{From: 2, N: 1})}, []space.Extent{{From: 9, N: 3}, {From: 2, N: 1}}, []string{"a"}},
		"64 extents":       {entries{0: entryOf("a", 64*512, fragments(64)...)}, fragments(64), []string{"a"}},
		"the largest":      {entries{0: entryOf("a", 1<<20, space.Extent{From: 5, N: 2048})}, []space.Extent{{From: 5, N: 2048}}, []string{"a"}},
		"a long name":      {entries{0: entryOf(strings.Repeat("~", 80), 0)}, nil, []string{strings.Repeat("~", 80)}},
		"three files": {
			entries{8: entryOf("b", 3, space.Extent{From: 1, N: 1}), 1: entryOf("!", 4, space.Extent{From: 3, N: 1}), 4: entryOf("B", 5, space.Extent{From: 2, N: 1})},
			[]space.Extent{{From: 1, N: 3}}, []string{"!", "B", "b"},
		},
	} {
		d := formatted(t, 4096, 10)
		d.Spoil(1, bitmapOf(x.used...))
		for i, s := range x.entries {
			d.Spoil(2+i, s)
		}
		s, err := file.Mount(d)
		if s == nil || err != api.OK {
			t.Errorf("%s: Mount: %d", what, err)
			continue
		}
		if l := s.Names(); !slices.Equal(l, x.names) {
			t.Errorf("%s: %q, want %q", what, l, x.names)
		}
		free(t, what, s, 4079-space.Count(x.used), 10-len(x.names))
	}
}

func TestMountOfCorruptEntries(t *testing.T) {
	one := space.Extent{From: 3, N: 1}
	// long returns an entry's body of 446 bytes beside the name.
	long := func(name int) string {
		return bodyOf(strings.Repeat("n", name), 63*512, slices.Repeat([]space.Extent{{From: 1 << 39, N: 1}}, 63)...)
	}
	for what, x := range map[string]struct {
		entries entries
		used    []space.Extent
	}{
		"no checksum":             {entries{0: full(bodyOf("a", 0))}, nil},
		"no entry":                {entries{0: "a"}, nil},
		"only bytes FF":           {entries{0: strings.Repeat("\xff", 512)}, nil},
		"one byte at the end":     {entries{0: full("")[:511] + "\x01"}, nil},
		"a byte behind":           {entries{0: sealed(bodyOf("a", 0)) + "\x01"}, nil},
		"a byte far behind":       {entries{0: entryOf("a", 0)[:511] + "\x01"}, nil},
		"no name":                 {entries{0: entryOf("", 0)}, nil},
		"a space in its name":     {entries{0: entryOf("a b", 0)}, nil},
		"a byte 7F in its name":   {entries{0: entryOf("a\x7f", 0)}, nil},
		"a name of 81 bytes":      {entries{0: entryOf(strings.Repeat("n", 81), 0)}, nil},
		"too long":                {entries{0: entryOf("a", 1<<20+1, space.Extent{From: 0, N: 2049})}, []space.Extent{{From: 0, N: 2049}}},
		"65 extents":              {entries{0: entryOf("a", 65*512, fragments(65)...)}, fragments(65)},
		"an extent of no units":   {entries{0: entryOf("a", 5, one, space.Extent{From: 7, N: 0})}, []space.Extent{one}},
		"no units and no bytes":   {entries{0: entryOf("a", 0, space.Extent{From: 0, N: 0})}, nil},
		"a unit too few":          {entries{0: entryOf("a", 513, one)}, []space.Extent{one}},
		"a unit too many":         {entries{0: entryOf("a", 512, one, space.Extent{From: 5, N: 1})}, []space.Extent{one, {From: 5, N: 1}}},
		"units of no bytes":       {entries{0: entryOf("a", 0, one)}, []space.Extent{one}},
		"bytes and no units":      {entries{0: entryOf("a", 1)}, nil},
		"no such unit":            {entries{0: entryOf("a", 5, space.Extent{From: 4079, N: 1})}, nil},
		"half beyond the end":     {entries{0: entryOf("a", 513, space.Extent{From: 4078, N: 2})}, []space.Extent{{From: 4078, N: 1}}},
		"a unit twice":            {entries{0: entryOf("a", 600, one, one)}, []space.Extent{one}},
		"a unit of two files":     {entries{0: entryOf("a", 5, one), 1: entryOf("b", 6, one)}, []space.Extent{one}},
		"two files of a name":     {entries{0: entryOf("a", 0), 7: entryOf("a", 0)}, nil},
		"one twice":               {entries{0: entryOf("a", 5, one), 7: entryOf("a", 5, one)}, []space.Extent{one}},
		"not allocated":           {entries{0: entryOf("a", 5, one)}, nil},
		"another one allocated":   {entries{0: entryOf("a", 5, one)}, []space.Extent{{From: 4, N: 1}}},
		"one more allocated":      {entries{0: entryOf("a", 5, one)}, []space.Extent{one, {From: 4, N: 1}}},
		"allocated without files": {nil, []space.Extent{{From: 4078, N: 1}}},
		"allocated and no unit":   {nil, []space.Extent{{From: 4079, N: 1}}},
		"a bit far behind":        {nil, []space.Extent{{From: 4095, N: 1}}},
		"an odd one among good":   {entries{0: entryOf("a", 0), 4: "x", 5: entryOf("b", 0)}, nil},
		"more than the sector":    {entries{0: long(80)[:512]}, nil},
		"no room for a checksum":  {entries{0: long(66)[:512]}, nil},
		"half a checksum":         {entries{0: sealed(long(64))[:512]}, nil},
		"a whole sector":          {entries{0: sealed(long(62))[:512]}, nil},
		"a far unit":              {entries{0: entryOf("a", 1, space.Extent{From: 1 << 40, N: 1})}, nil},
		"many units":              {entries{0: entryOf("a", 1, space.Extent{From: 0, N: 1 << 40})}, nil},
		"very many units":         {entries{0: entryOf("a", 1<<20, space.Extent{From: 1, N: 1 << 40}, space.Extent{From: 1, N: 1 << 40})}, nil},
		"a size in two bytes":     {entries{0: full(sealed("\x01a\x80\x00\x00"))}, nil},
		"a name's size in two":    {entries{0: full(sealed("\x80\x01a\x00\x00"))}, nil},
		"no number for the size":  {entries{0: full(sealed("\x01a\xff\x00"))}, nil},
		"no number of extents":    {entries{0: full(sealed("\x01a\x00\xff"))}, nil},
		"no number in an extent":  {entries{0: full(sealed("\x01a\x01\x01\x03\xff"))}, []space.Extent{one}},
		"big-endian":              {entries{0: full(bodyOf("a", 0) + reversed(little(bodyOf("a", 0))))}, nil},
		"of one frame":            {entries{0: full("\x00" + sealed(bodyOf("a", 0)))}, nil},
	} {
		d := formatted(t, 4096, 10)
		d.Spoil(1, bitmapOf(x.used...))
		for i, s := range x.entries {
			if err := d.Spoil(2+i, s); err != api.OK {
				t.Fatalf("%s: Spoil: %d", what, err)
			}
		}
		mountFails(t, what, d, api.ErrCorrupt)
	}
}

// reversed returns the bytes of s from the last one on.
func reversed(s string) string {
	b := []byte(s)
	slices.Reverse(b)
	return string(b)
}

// No entry and no bitmap with a byte that was changed is taken.
func TestMountOfDamage(t *testing.T) {
	s, d := fresh(t, 20, 4)
	ok(t, "Write", s.Write("a", text(1, 1000)))
	ok(t, "Write", s.Write("b", text(2, 100)))
	good := content(t, d)
	for _, i := range []int{1, 2, 3, 4} {
		for at := range 512 {
			b := []byte(good[i])
			b[at] ^= 1 << (at % 8)
			d.Spoil(i, string(b))
			mountFails(t, fmt.Sprintf("byte %d of sector %d", at, i), d, api.ErrCorrupt)
		}
		d.Spoil(i, good[i])
	}
	d.Spoil(2, good[3])
	mountFails(t, "an entry in the place of another", d, api.ErrCorrupt)
	d.Spoil(2, "")
	mountFails(t, "no entry in the place of one", d, api.ErrCorrupt)
	d.Spoil(2, good[2])
	mount(t, d)
}

// The content of a file has no checksum: whatever its units hold is read.
func TestSpoiledContent(t *testing.T) {
	s, d := fresh(t, 20, 4)
	ok(t, "Write", s.Write("a", text(1, 1000)))
	spoiled := text(2, 512)
	d.Spoil(12, spoiled)
	has(t, "spoiled", mount(t, d), "a", text(1, 1000)[:512]+spoiled[:488])
	s = mount(t, d)
	ok(t, "Append", s.Append("a", "more"))
	has(t, "appended", s, "a", text(1, 1000)[:512]+spoiled[:488]+"more")
}

// P7.2

// refused makes every call of a store, with good and with wrong arguments, each of which must return an error.
func refused(t *testing.T, what string, s *file.Store, want api.Errno) {
	t.Helper()
	for _, name := range []string{"a", "none", "", "a b"} {
		is(t, what+": Write", s.Write(name, "x"), want)
		is(t, what+": Write of too much", s.Write(name, strings.Repeat("x", 1<<20+1)), want)
		is(t, what+": Append", s.Append(name, "x"), want)
		is(t, what+": Append of nothing", s.Append(name, ""), want)
		is(t, what+": Rename", s.Rename(name, "b"), want)
		is(t, what+": Rename to itself", s.Rename(name, name), want)
		is(t, what+": Rename to no name", s.Rename(name, ""), want)
		is(t, what+": Remove", s.Remove(name), want)
		if x, err := s.Read(name); x != "" || err != want {
			t.Errorf("%s: Read(%s): %q, %d", what, name, x, err)
		}
		if n, err := s.Size(name); n != 0 || err != want {
			t.Errorf("%s: Size(%s): %d, %d", what, name, n, err)
		}
	}
}

func TestNoStore(t *testing.T) {
	for what, s := range map[string]*file.Store{"no store": nil, "an empty store": new(file.Store)} {
		refused(t, what, s, api.ErrArg)
		has(t, what, s)
		free(t, what, s, 0, 0)
	}
}

// known says which names a store without power must know, and what of it is free.
func known(t *testing.T, what string, s *file.Store, units, entries int, names ...string) {
	t.Helper()
	if l := s.Names(); !slices.Equal(l, names) {
		t.Errorf("%s: Names: %q, want %q", what, l, names)
	}
	free(t, what, s, units, entries)
}

func TestWithoutPower(t *testing.T) {
	s, d := fresh(t, 20, 4)
	ok(t, "Write", s.Write("a", text(1, 1000)))
	ok(t, "Write", s.Write("b", "b"))
	off(d)
	before, _ := d.Counts()
	refused(t, "off", s, api.ErrPower)
	known(t, "off", s, 6, 2, "a", "b")
	if after, _ := d.Counts(); after != before {
		t.Errorf("%d commands without power", after-before)
	}
	// The power failed in no call of the store: it goes on.
	d.On()
	has(t, "on", s, "a", text(1, 1000), "b", "b")
	ok(t, "Append", s.Append("b", "c"))
	d.Crash(1)
	has(t, "after Crash", s, "a", text(1, 1000), "b", "bc")
	ok(t, "Remove", s.Remove("a"))
	has(t, "mounted", mount(t, d), "b", "bc")
}

func TestAfterAFailure(t *testing.T) {
	for what, call := range map[string]func(s *file.Store) api.Errno{
		"Write":         func(s *file.Store) api.Errno { return s.Write("a", text(3, 700)) },
		"Write of none": func(s *file.Store) api.Errno { return s.Write("new", "") },
		"Append":        func(s *file.Store) api.Errno { return s.Append("a", text(3, 700)) },
		"Rename":        func(s *file.Store) api.Errno { return s.Rename("a", "b") },
		"Rename to new": func(s *file.Store) api.Errno { return s.Rename("a", "new") },
		"Remove":        func(s *file.Store) api.Errno { return s.Remove("a") },
	} {
		failures := 0
		for n := 1; ; n++ {
			s, d := fresh(t, 20, 4)
			ok(t, "Write", s.Write("a", text(1, 1000)))
			ok(t, "Write", s.Write("b", text(2, 10)))
			d.Cut(n, 1)
			err := call(s)
			if !d.Off() {
				is(t, what+" that isn't cut", err, api.OK)
				break
			}
			failures++
			is(t, what+" that is cut", err, api.ErrPower)
			refused(t, what+", off", s, api.ErrPower)
			known(t, what+", off", s, 6, 2, "a", "b")
			d.On()
			refused(t, what+", on again", s, api.ErrPower)
			known(t, what+", on again", s, 6, 2, "a", "b")
			other := mount(t, d)
			ok(t, "Write of a new store", other.Write("c", "c"))
			refused(t, what+", mounted again", s, api.ErrPower)
			known(t, what+", mounted again", s, 6, 2, "a", "b")
			if x, err := other.Read("c"); x != "c" || err != api.OK {
				t.Errorf("%s: Read of the new store: %q, %d", what, x, err)
			}
		}
		if failures < 5 {
			t.Errorf("%s: it was cut %d times only", what, failures)
		}
	}
}

// P7.3

func TestGood(t *testing.T) {
	for b := range 256 {
		want := 0x21 <= b && b <= 0x7e
		for _, name := range []string{string([]byte{byte(b)}), string([]byte{'a', byte(b), 'c'}), "ab" + string([]byte{byte(b)})} {
			if file.Good(name) != want {
				t.Errorf("Good(%q): %t", name, !want)
			}
		}
	}
	for n := range 200 {
		if want := 1 <= n && n <= 80; file.Good(strings.Repeat("n", n)) != want {
			t.Errorf("Good of %d bytes: %t", n, !want)
		}
	}
	for _, name := range []string{"", "\u00e9", "a\u0301", "\U0001f600", "\xc3", "\xef\xbf\xbd", strings.Repeat("n", 1<<20), strings.Repeat("\u00e9", 40)} {
		if file.Good(name) {
			t.Errorf("Good(%.20q)", name)
		}
	}
}

var wrongNames = []string{"", " ", "a b", "a\x00", "a\n", "\x7f", "\xff", "\u00e9", strings.Repeat("n", 81), strings.Repeat("n", 1000)}

// unchanged says that a call changes and writes nothing; it returns the error that is wanted.
func unchanged(t *testing.T, what string, d *sector.Disk, call func() api.Errno, want api.Errno) {
	t.Helper()
	before := content(t, d)
	done, _ := d.Counts()
	is(t, what, call(), want)
	if after, writes := d.Counts(); after != done || writes != 0 || !slices.Equal(content(t, d), before) {
		t.Errorf("%s wrote", what)
	}
}

func TestWrongNames(t *testing.T) {
	s, d := fresh(t, 20, 4)
	long := strings.Repeat("x", 1<<20+1)
	ok(t, "Write", s.Write("a", "x"))
	for _, name := range wrongNames {
		unchanged(t, "Write", d, func() api.Errno { return s.Write(name, "x") }, api.ErrName)
		unchanged(t, "Write of too much", d, func() api.Errno { return s.Write(name, long) }, api.ErrName)
		unchanged(t, "Append", d, func() api.Errno { return s.Append(name, long) }, api.ErrName)
		unchanged(t, "Rename", d, func() api.Errno { return s.Rename(name, "b") }, api.ErrName)
		unchanged(t, "Rename to it", d, func() api.Errno { return s.Rename("a", name) }, api.ErrName)
		unchanged(t, "Rename of none to it", d, func() api.Errno { return s.Rename("none", name) }, api.ErrName)
		unchanged(t, "Rename of it to itself", d, func() api.Errno { return s.Rename(name, name) }, api.ErrName)
		unchanged(t, "Remove", d, func() api.Errno { return s.Remove(name) }, api.ErrName)
		if x, err := s.Read(name); x != "" || err != api.ErrName {
			t.Errorf("Read(%.20q): %q, %d", name, x, err)
		}
		if n, err := s.Size(name); n != 0 || err != api.ErrName {
			t.Errorf("Size(%.20q): %d, %d", name, n, err)
		}
	}
	has(t, "at the end", s, "a", "x")
}

func TestNoSuchFile(t *testing.T) {
	s, d := fresh(t, 20, 4)
	ok(t, "Write", s.Write("a", "x"))
	for _, name := range []string{"b", "A", "aa", strings.Repeat("n", 80)} {
		unchanged(t, "Append", d, func() api.Errno { return s.Append(name, strings.Repeat("x", 1<<20+1)) }, api.ErrNone)
		unchanged(t, "Append of nothing", d, func() api.Errno { return s.Append(name, "") }, api.ErrNone)
		unchanged(t, "Rename", d, func() api.Errno { return s.Rename(name, "c") }, api.ErrNone)
		unchanged(t, "Rename to a file", d, func() api.Errno { return s.Rename(name, "a") }, api.ErrNone)
		unchanged(t, "Rename to itself", d, func() api.Errno { return s.Rename(name, name) }, api.ErrNone)
		unchanged(t, "Remove", d, func() api.Errno { return s.Remove(name) }, api.ErrNone)
		if x, err := s.Read(name); x != "" || err != api.ErrNone {
			t.Errorf("Read(%.20q): %q, %d", name, x, err)
		}
		if n, err := s.Size(name); n != 0 || err != api.ErrNone {
			t.Errorf("Size(%.20q): %d, %d", name, n, err)
		}
	}
	has(t, "at the end", s, "a", "x")
}

// sizesOfFiles are those about some numbers of units; two of the greatest one behind the other would not fit on a disk.
var sizesOfFiles = []int{0, 1, 2, 100, 511, 512, 513, 1023, 1024, 1025, 4095, 4096, 4097, 100000, 1<<20 - 1, 3, 1 << 20}

func TestWriteAndRead(t *testing.T) {
	s, d := fresh(t, 4096, 4)
	for i, n := range sizesOfFiles {
		ok(t, fmt.Sprintf("Write of %d bytes", n), s.Write("a", text(i, n)))
		has(t, fmt.Sprintf("%d bytes", n), s, "a", text(i, n))
		free(t, fmt.Sprintf("%d bytes", n), s, 4085-(n+511)/512, 3)
		d.Crash()
		has(t, fmt.Sprintf("%d bytes, mounted", n), mount(t, d), "a", text(i, n))
	}
	for _, x := range []string{"\x00", "\x00\x00", "a\x00", full("a"), full("") + "\x00"} {
		ok(t, "Write", s.Write("b", x))
		has(t, "bytes 00", s, "a", text(len(sizesOfFiles)-1, 1<<20), "b", x)
	}
}

func TestTooLong(t *testing.T) {
	s, d := fresh(t, 20, 1)
	ok(t, "Write", s.Write("a", "x"))
	long := strings.Repeat("x", 1<<20+1)
	// There is no entry for b and no space for either, which comes behind ErrLong.
	unchanged(t, "Write", d, func() api.Errno { return s.Write("a", long) }, api.ErrLong)
	unchanged(t, "Write of a new file", d, func() api.Errno { return s.Write("b", long) }, api.ErrLong)
	unchanged(t, "Write of as much as may be", d, func() api.Errno { return s.Write("a", long[1:]) }, api.ErrSpace)
	unchanged(t, "Append", d, func() api.Errno { return s.Append("a", long[1:]) }, api.ErrLong)
	unchanged(t, "Append of more", d, func() api.Errno { return s.Append("a", long) }, api.ErrLong)
	unchanged(t, "Append of as much as may be", d, func() api.Errno { return s.Append("a", long[2:]) }, api.ErrSpace)
	s, d = fresh(t, 4096, 2)
	ok(t, "Write", s.Write("a", long[3:]))
	ok(t, "Append of a byte", s.Append("a", "y"))
	ok(t, "Append of the last byte", s.Append("a", "z"))
	unchanged(t, "Append of a byte too many", d, func() api.Errno { return s.Append("a", "!") }, api.ErrLong)
	unchanged(t, "Append of nothing", d, func() api.Errno { return s.Append("a", "") }, api.OK)
	has(t, "at the end", s, "a", long[3:]+"yz")
}

// disposed says what a disk must have: entries by their numbers, and in the data units these texts.
func disposed(t *testing.T, what string, d *sector.Disk, files int, x entries, used []space.Extent, units ...string) {
	t.Helper()
	for i := range files {
		if s, _ := d.Read(2 + i); s != full(strings.TrimRight(x[i], "\x00")) {
			t.Errorf("%s: entry %d: %.40q, want %.40q", what, i, s, x[i])
		}
	}
	if s, _ := d.Read(1); s != bitmapOf(used...) {
		t.Errorf("%s: the bitmap: % x, want % x", what, s[:4], bitmapOf(used...)[:4])
	}
	for i, want := range units {
		if s, _ := d.Read(7 + files + i); s[:len(want)] != want {
			t.Errorf("%s: unit %d: %s, want %s", what, i, short(s), short(want))
		}
	}
}

func TestWhereThingsAre(t *testing.T) {
	s, d := fresh(t, 20, 4)
	a, b, c := text(1, 1000), text(2, 10), text(3, 1100)
	ok(t, "Write", s.Write("a", a))
	ok(t, "Write", s.Write("b", b))
	ok(t, "Write", s.Write("none", ""))
	disposed(t, "three files", d, 4, entries{
		0: entryOf("a", 1000, space.Extent{From: 0, N: 2}), 1: entryOf("b", 10, space.Extent{From: 2, N: 1}), 2: entryOf("none", 0),
	}, []space.Extent{{From: 0, N: 3}}, a[:512], a[512:], b)

	// The new content takes the least units while the old one has its own; the entry stays.
	ok(t, "Write", s.Write("a", c))
	disposed(t, "written again", d, 4, entries{
		0: entryOf("a", 1100, space.Extent{From: 3, N: 3}), 1: entryOf("b", 10, space.Extent{From: 2, N: 1}), 2: entryOf("none", 0),
	}, []space.Extent{{From: 2, N: 4}}, "", "", b, c[:512], c[512:1024], c[1024:])

	// A file that grows goes on in the sector that it has begun, then in the least free units.
	more := text(4, 1500)
	ok(t, "Append", s.Append("b", more))
	ok(t, "Append", s.Append("b", text(5, 512)))
	b += more + text(5, 512)
	disposed(t, "appended", d, 4, entries{
		0: entryOf("a", 1100, space.Extent{From: 3, N: 3}), 2: entryOf("none", 0),
		1: entryOf("b", 2022, space.Extent{From: 2, N: 1}, space.Extent{From: 0, N: 2}, space.Extent{From: 6, N: 1}),
	}, []space.Extent{{From: 0, N: 7}}, b[512:1024], b[1024:1536], b[:512], c[:512], c[512:1024], c[1024:], b[1536:])

	// Adjacent extents of two calls aren't made one.
	ok(t, "Append", s.Append("none", "x"))
	ok(t, "Append", s.Append("none", full("")))
	disposed(t, "adjacent", d, 4, entries{
		0: entryOf("a", 1100, space.Extent{From: 3, N: 3}), 2: entryOf("none", 513, space.Extent{From: 7, N: 1}, space.Extent{From: 8, N: 1}),
		1: entryOf("b", 2022, space.Extent{From: 2, N: 1}, space.Extent{From: 0, N: 2}, space.Extent{From: 6, N: 1}),
	}, []space.Extent{{From: 0, N: 9}})

	ok(t, "Remove", s.Remove("a"))
	disposed(t, "removed", d, 4, entries{
		2: entryOf("none", 513, space.Extent{From: 7, N: 1}, space.Extent{From: 8, N: 1}),
		1: entryOf("b", 2022, space.Extent{From: 2, N: 1}, space.Extent{From: 0, N: 2}, space.Extent{From: 6, N: 1}),
	}, []space.Extent{{From: 0, N: 3}, {From: 6, N: 3}})

	ok(t, "Rename", s.Rename("none", "b"))
	disposed(t, "renamed to another one's name", d, 4, entries{
		2: entryOf("b", 513, space.Extent{From: 7, N: 1}, space.Extent{From: 8, N: 1}),
	}, []space.Extent{{From: 7, N: 2}})

	// A new file takes the least free entry.
	ok(t, "Write", s.Write("c", "c"))
	ok(t, "Write", s.Write("d", "d"))
	ok(t, "Rename", s.Rename("c", "e"))
	disposed(t, "new ones", d, 4, entries{
		0: entryOf("e", 1, space.Extent{From: 0, N: 1}), 1: entryOf("d", 1, space.Extent{From: 1, N: 1}),
		2: entryOf("b", 513, space.Extent{From: 7, N: 1}, space.Extent{From: 8, N: 1}),
	}, []space.Extent{{From: 0, N: 2}, {From: 7, N: 2}}, "c", "d")
	has(t, "at the end", s, "b", "x"+full(""), "d", "d", "e", "c")
	free(t, "at the end", s, 5, 1)
}

func TestNoEntry(t *testing.T) {
	s, d := fresh(t, 20, 2)
	ok(t, "Write", s.Write("a", "x"))
	ok(t, "Write", s.Write("b", ""))
	free(t, "full", s, 10, 0)
	unchanged(t, "Write of a third file", d, func() api.Errno { return s.Write("c", "") }, api.ErrSpace)
	unchanged(t, "Write of a third file", d, func() api.Errno { return s.Write("c", "x") }, api.ErrSpace)
	ok(t, "Write of one of the two", s.Write("b", "y"))
	ok(t, "Rename", s.Rename("b", "c"))
	unchanged(t, "Write of the old name", d, func() api.Errno { return s.Write("b", "") }, api.ErrSpace)
	ok(t, "Rename to the other one's name", s.Rename("c", "a"))
	ok(t, "Write", s.Write("b", "z"))
	has(t, "at the end", s, "a", "y", "b", "z")
}

func TestNoUnits(t *testing.T) {
	s, d := fresh(t, 20, 4)
	a := text(1, 5*512)
	ok(t, "Write", s.Write("a", a))
	// Four units are free, and a's are allocated up to the end of its Write.
	unchanged(t, "Write", d, func() api.Errno { return s.Write("a", a) }, api.ErrSpace)
	unchanged(t, "Write of a new file", d, func() api.Errno { return s.Write("b", a) }, api.ErrSpace)
	unchanged(t, "Append", d, func() api.Errno { return s.Append("a", a) }, api.ErrSpace)
	ok(t, "Append", s.Append("a", a[:4*512]))
	free(t, "full", s, 0, 3)
	unchanged(t, "Append of a byte", d, func() api.Errno { return s.Append("a", "x") }, api.ErrSpace)
	unchanged(t, "Write of a byte", d, func() api.Errno { return s.Write("a", "x") }, api.ErrSpace)
	unchanged(t, "Write of a new file of a byte", d, func() api.Errno { return s.Write("b", "x") }, api.ErrSpace)
	unchanged(t, "Append of nothing", d, func() api.Errno { return s.Append("a", "") }, api.OK)
	ok(t, "Write of an empty file", s.Write("b", ""))
	has(t, "full", s, "a", a+a[:4*512], "b", "")
	ok(t, "Rename", s.Rename("a", "c"))
	ok(t, "Write of nothing", s.Write("c", ""))
	free(t, "empty", s, 9, 2)
	ok(t, "Write of one unit less a byte", s.Write("b", a[:511]))
	ok(t, "Write of eight units", s.Write("c", strings.Repeat(a[:512], 8)))
	free(t, "full again", s, 0, 2)
	ok(t, "Append of the byte that is left", s.Append("b", "x"))
	unchanged(t, "Append of a byte more", d, func() api.Errno { return s.Append("b", "x") }, api.ErrSpace)
	has(t, "at the end", s, "b", a[:511]+"x", "c", strings.Repeat(a[:512], 8))
}

// gaps returns a store of 300 units. Of the first 2n of them every other one is that of a file, f or g, from unit 1 on;
// all others are free.
func gaps(t *testing.T, n int) (*file.Store, *sector.Disk) {
	t.Helper()
	d := formatted(t, 300+7+100, 100)
	d.Spoil(2, entryOf("f", 512*min(n, 64), odd(0, min(n, 64))...))
	d.Spoil(3, entryOf("g", 512*(n-min(n, 64)), odd(min(n, 64), n)...))
	d.Spoil(1, bitmapOf(odd(0, n)...))
	return mount(t, d), d
}

// odd returns as extents the units 2i + 1, with i from from to below to.
func odd(from, to int) []space.Extent {
	var l []space.Extent
	for i := from; i < to; i++ {
		l = append(l, space.Extent{From: 2*i + 1, N: 1})
	}
	return l
}

func TestTooManyExtents(t *testing.T) {
	// The units 0, 2 .. 138 are free, and all from 140 on.
	s, d := gaps(t, 70)
	free(t, "gaps", s, 230, 98)
	unchanged(t, "Write in 65 extents", d, func() api.Errno { return s.Write("a", text(1, 64*512+1)) }, api.ErrSpace)
	ok(t, "Write in 64 extents", s.Write("a", text(1, 64*512)))
	has64 := entryOf("a", 64*512, fragments(64)...)
	if x, _ := d.Read(4); x != has64 {
		t.Errorf("its entry: %.40q", x)
	}
	unchanged(t, "Append of a 65th extent", d, func() api.Errno { return s.Append("a", "x") }, api.ErrSpace)
	unchanged(t, "Append of nothing", d, func() api.Errno { return s.Append("a", "") }, api.OK)
	// f has 64 extents too; g has six.
	unchanged(t, "Append to f", d, func() api.Errno { return s.Append("f", "x") }, api.ErrSpace)
	ok(t, "Append to g", s.Append("g", text(2, 512*7)))
	if x, _ := s.Read("a"); x != text(1, 64*512) {
		t.Error("the content of a")
	}
}

func TestExtentsThatRemain(t *testing.T) {
	s, d := gaps(t, 70)
	ok(t, "Write", s.Write("a", text(1, 60*512)))
	unchanged(t, "Append of five extents", d, func() api.Errno { return s.Append("a", text(2, 4*512+1)) }, api.ErrSpace)
	ok(t, "Append of three extents", s.Append("a", text(2, 2*512+100)))
	ok(t, "Append in the unit that is begun", s.Append("a", text(3, 412)))
	unchanged(t, "Append of two extents", d, func() api.Errno { return s.Append("a", text(2, 513)) }, api.ErrSpace)
	ok(t, "Append of the last extent", s.Append("a", text(4, 511)))
	ok(t, "Append of its last byte", s.Append("a", "!"))
	unchanged(t, "Append of a byte more", d, func() api.Errno { return s.Append("a", "x") }, api.ErrSpace)
	want := text(1, 60*512) + text(2, 2*512+100) + text(3, 412) + text(4, 511) + "!"
	if x, err := s.Read("a"); x != want || err != api.OK {
		t.Errorf("Read: %d", err)
	}
	if x, _ := d.Read(4); x != entryOf("a", 64*512, fragments(64)...) {
		t.Errorf("its entry: %.40q", x)
	}
	mount(t, d)
}

// Each Append has an extent of its own, though they lie side by side.
func TestAppendsOneByOne(t *testing.T) {
	s, d := fresh(t, 300, 4)
	ok(t, "Write", s.Write("a", ""))
	for i := range 64 {
		ok(t, "Append", s.Append("a", text(i, 512)))
	}
	unchanged(t, "the 65th Append", d, func() api.Errno { return s.Append("a", "x") }, api.ErrSpace)
	free(t, "64 extents", s, 225, 3)
	ok(t, "Write", s.Write("a", text(1, 70*512)))
	ok(t, "Append", s.Append("a", "x"))
	has(t, "written anew", s, "a", text(1, 70*512)+"x")
}

func TestAppend(t *testing.T) {
	for _, n := range []int{0, 1, 511, 512, 513, 1024, 1500} {
		for _, m := range []int{0, 1, 11, 12, 511, 512, 513, 1024, 2000} {
			s, d := fresh(t, 30, 4)
			ok(t, "Write", s.Write("a", text(1, n)))
			ok(t, "Write", s.Write("b", text(2, 700)))
			ok(t, "Append", s.Append("a", text(3, m)))
			what := fmt.Sprintf("%d and %d bytes", n, m)
			has(t, what, s, "a", text(1, n)+text(3, m), "b", text(2, 700))
			free(t, what, s, 19-2-(n+m+511)/512, 2)
			d.Crash()
			has(t, what+", mounted", mount(t, d), "a", text(1, n)+text(3, m), "b", text(2, 700))
		}
	}
	s, d := fresh(t, 30, 4)
	ok(t, "Write", s.Write("a", ""))
	unchanged(t, "Append of nothing", d, func() api.Errno { return s.Append("a", "") }, api.OK)
	want := ""
	for i := range 60 {
		ok(t, "Append", s.Append("a", text(i, i)))
		want += text(i, i)
	}
	has(t, "60 of them", s, "a", want)
}

func TestRename(t *testing.T) {
	s, d := fresh(t, 20, 4)
	ok(t, "Write", s.Write("a", text(1, 1000)))
	ok(t, "Write", s.Write("b", text(2, 1600)))
	unchanged(t, "Rename to itself", d, func() api.Errno { return s.Rename("a", "a") }, api.OK)
	ok(t, "Rename", s.Rename("a", "c"))
	has(t, "a is c", s, "b", text(2, 1600), "c", text(1, 1000))
	free(t, "a is c", s, 3, 2)
	ok(t, "Rename", s.Rename("b", "c"))
	has(t, "b is c", s, "c", text(2, 1600))
	free(t, "b is c", s, 5, 3)
	unchanged(t, "Rename of what was renamed", d, func() api.Errno { return s.Rename("b", "c") }, api.ErrNone)
	ok(t, "Write", s.Write("b", ""))
	ok(t, "Rename", s.Rename("c", "b"))
	has(t, "c is b", s, "b", text(2, 1600))
	ok(t, "Rename", s.Rename("b", strings.Repeat("~", 80)))
	has(t, "a long name", s, strings.Repeat("~", 80), text(2, 1600))
	d.Crash()
	has(t, "mounted", mount(t, d), strings.Repeat("~", 80), text(2, 1600))
}

func TestRemove(t *testing.T) {
	s, d := fresh(t, 20, 4)
	ok(t, "Write", s.Write("a", text(1, 1000)))
	ok(t, "Write", s.Write("b", text(2, 1600)))
	ok(t, "Write", s.Write("c", ""))
	ok(t, "Remove", s.Remove("a"))
	has(t, "without a", s, "b", text(2, 1600), "c", "")
	free(t, "without a", s, 5, 2)
	unchanged(t, "Remove of what was removed", d, func() api.Errno { return s.Remove("a") }, api.ErrNone)
	ok(t, "Remove", s.Remove("c"))
	ok(t, "Remove", s.Remove("b"))
	has(t, "without any", s)
	free(t, "without any", s, 9, 4)
	d.Crash()
	s = mount(t, d)
	has(t, "mounted", s)
	free(t, "mounted", s, 9, 4)
}

func TestNames(t *testing.T) {
	s, _ := fresh(t, 100, 50)
	for _, name := range []string{"b", "B", "a", "~", "aa", "a.b", "a-b", "!", "a0", "a1", "a10", "zz", "Z"} {
		ok(t, "Write", s.Write(name, name))
	}
	want := []string{"!", "B", "Z", "a", "a-b", "a.b", "a0", "a1", "a10", "aa", "b", "zz", "~"}
	l := s.Names()
	if !slices.Equal(l, want) {
		t.Errorf("%q, want %q", l, want)
	}
	// The list is the caller's own.
	l[0] = "changed"
	if l := s.Names(); !slices.Equal(l, want) {
		t.Errorf("%q, want %q", l, want)
	}
}

func TestAllFiles(t *testing.T) {
	s, d := fresh(t, 4096, 256)
	var want []string
	for i := range 256 {
		name := fmt.Sprintf("%03d", i)
		want = append(want, name, text(i, i*5))
		ok(t, "Write", s.Write(name, text(i, i*5)))
	}
	unchanged(t, "Write of another file", d, func() api.Errno { return s.Write("x", "") }, api.ErrSpace)
	has(t, "256 files", s, want...)
	d.Crash()
	s = mount(t, d)
	has(t, "256 files, mounted", s, want...)
	ok(t, "Remove", s.Remove("255"))
	ok(t, "Write", s.Write("x", ""))
	if x, _ := d.Read(257); x != entryOf("x", 0) {
		t.Errorf("the last entry: %.40q", x)
	}
}

func TestStoresStandAlone(t *testing.T) {
	s, d := fresh(t, 20, 4)
	other, _ := fresh(t, 20, 4)
	ok(t, "Write", s.Write("a", "x"))
	has(t, "the other store", other)
	d.Cut(1)
	is(t, "Write", s.Write("a", "y"), api.ErrPower)
	ok(t, "Write of the other store", other.Write("b", "z"))
	has(t, "the other store", other, "b", "z")
}
