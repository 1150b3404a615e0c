package wal_test

import (
	"fmt"
	"hash/crc32"
	"math"
	"math/rand"
	"slices"
	"strings"
	"testing"

	"stemma/api"
	"stemma/sector"
	"stemma/wal"
)

// full returns the bytes of a sector to which data was written.
func full(data string) string { return data + strings.Repeat("\x00", 512-len(data)) }

// disk returns a disk of n sectors, each of which has its number in it, but for those of a log, which have bytes 00.
func disk(t *testing.T, n, from, size int) *sector.Disk {
	t.Helper()
	d, err := sector.New(n)
	if err != api.OK {
		t.Fatalf("New(%d): %d", n, err)
	}
	for i := range n {
		if i < from || i >= from+size {
			d.Spoil(i, fmt.Sprint("old ", i))
		}
	}
	return d
}

// open opens a log in which no changes are described.
func open(t *testing.T, d *sector.Disk, from, size int) *wal.Log {
	t.Helper()
	l, n, err := wal.Open(d, from, size)
	if l == nil || n != 0 || err != api.OK {
		t.Fatalf("Open(%d, %d): %v, %d, %d", from, size, l, n, err)
	}
	return l
}

// content returns the bytes of all sectors.
func content(t *testing.T, d *sector.Disk) []string {
	t.Helper()
	l := make([]string, d.Size())
	for i := range l {
		s, err := d.Read(i)
		if err != api.OK {
			t.Fatalf("Read(%d): %d", i, err)
		}
		l[i] = s
	}
	return l
}

// put makes the sectors of a disk durable as they are in l.
func put(d *sector.Disk, l []string) {
	for i, s := range l {
		d.Spoil(i, s)
	}
}

// sealed returns a head that begins with s, with the checksum of s and of the images behind it.
func sealed(s string, images ...string) string {
	sum := s
	for _, x := range images {
		sum += full(x)
	}
	n := crc32.ChecksumIEEE([]byte(sum))
	return s + string([]byte{byte(n), byte(n >> 8), byte(n >> 16), byte(n >> 24)})
}

// headOf returns the head that describes changes.
func headOf(x ...wal.Change) string {
	s, images := "WL"+string([]byte{byte(len(x))}), []string(nil)
	for _, c := range x {
		s += string([]byte{byte(c.Sector >> 8), byte(c.Sector)})
		images = append(images, c.Data)
	}
	return sealed(s, images...)
}

// describe lays the changes into the log at from, as a Commit does that the power broke off.
func describe(d *sector.Disk, from int, x ...wal.Change) {
	d.Spoil(from, headOf(x...))
	for i, c := range x {
		d.Spoil(from+1+i, c.Data)
	}
}

// command is a Write, or a Sync.
type command struct {
	sync   bool
	sector int
	data   string
}

// written are the commands that write these sectors and sync them.
func written(x ...wal.Change) []command {
	var l []command
	for _, c := range x {
		l = append(l, command{sector: c.Sector, data: c.Data})
	}
	return append(l, command{sync: true})
}

// applying are the commands that make described changes, and clear the head.
func applying(from int, x ...wal.Change) []command {
	return append(written(x...), written(wal.Change{Sector: from})...)
}

// committing are the commands of a whole Commit.
func committing(from int, x ...wal.Change) []command {
	var images []wal.Change
	for i, c := range x {
		images = append(images, wal.Change{Sector: from + 1 + i, Data: c.Data})
	}
	l := written(images...)
	l = append(l, written(wal.Change{Sector: from, Data: headOf(x...)})...)
	return append(l, applying(from, x...)...)
}

// after returns the sectors after commands; durable leaves out the writes that no Sync follows.
func after(before []string, l []command, durable bool) []string {
	sectors := slices.Clone(before)
	synced := slices.Clone(before)
	for _, c := range l {
		if c.sync {
			synced = slices.Clone(sectors)
		} else {
			sectors[c.sector] = full(c.data)
		}
	}
	if durable {
		return synced
	}
	return sectors
}

// executes says which commands a call must execute on disks like the one that fresh returns: the power is cut ahead
// of each of them, once with all writes kept and once with none.
func executes(t *testing.T, fresh func() *sector.Disk, call func(d *sector.Disk) api.Errno, want []command) {
	t.Helper()
	d := fresh()
	before := content(t, d)
	if err := call(d); err != api.OK {
		t.Fatalf("the call: %d", err)
	}
	if done, writes := d.Counts(); done != len(want) || writes != 0 {
		t.Errorf("%d commands, %d writes wait; want %d, 0", done, writes, len(want))
	}
	if !slices.Equal(content(t, d), after(before, want, false)) {
		t.Error("the sectors aren't as they should be")
	}
	for n := range len(want) {
		for _, keep := range []int{0, 1} {
			d := fresh()
			d.Cut(n+1, keep)
			if err := call(d); err != api.ErrPower {
				t.Errorf("cut ahead of command %d: %d", n, err)
			}
			if done, _ := d.Counts(); done != n {
				t.Errorf("cut ahead of command %d: %d were executed", n, done)
			}
			d.On()
			if !slices.Equal(content(t, d), after(before, want[:n], keep == 0)) {
				t.Errorf("cut ahead of command %d, keep %d: the sectors aren't as they should be", n, keep)
			}
		}
	}
}

// P6.1

func TestOpenRefuses(t *testing.T) {
	for _, x := range []struct{ n, from, size int }{
		{100, -1, 5},
		{100, math.MinInt, 5},
		{100, 0, 1},
		{100, 0, 0},
		{100, 0, -1},
		{100, 0, math.MinInt},
		{100, 0, 66},
		{100, 0, math.MaxInt},
		{100, 96, 5},
		{100, 99, 2},
		{100, 100, 2},
		{100, 36, 65},
		{100, math.MaxInt, 2},
		{100, math.MaxInt - 1, 65},
		{4, 0, 5},
		{1, 0, 2},
	} {
		d := disk(t, x.n, 0, 0)
		before := content(t, d)
		if l, n, err := wal.Open(d, x.from, x.size); l != nil || n != 0 || err != api.ErrArg {
			t.Errorf("Open(%d, %d) of %d sectors: %v, %d, %d", x.from, x.size, x.n, l, n, err)
		}
		if !slices.Equal(content(t, d), before) {
			t.Errorf("Open(%d, %d) of %d sectors: they changed", x.from, x.size, x.n)
		}
		d.Cut(1)
		d.Sync()
		if _, _, err := wal.Open(d, x.from, x.size); err != api.ErrArg {
			t.Errorf("Open(%d, %d) without power: %d", x.from, x.size, err)
		}
	}
	if l, n, err := wal.Open(nil, 0, 5); l != nil || n != 0 || err != api.ErrArg {
		t.Errorf("Open of no disk: %v, %d, %d", l, n, err)
	}
}

func TestOpenOfNothing(t *testing.T) {
	for _, x := range []struct{ n, from, size int }{
		{2, 0, 2}, {20, 0, 2}, {20, 18, 2}, {20, 3, 5}, {20, 0, 20}, {65, 0, 65}, {100, 35, 65}, {4096, 4031, 65},
	} {
		d := disk(t, x.n, x.from, x.size)
		before := content(t, d)
		l := open(t, d, x.from, x.size)
		if l.Most() != x.size-1 {
			t.Errorf("Open(%d, %d): Most is %d", x.from, x.size, l.Most())
		}
		if done, writes := d.Counts(); done != 0 || writes != 0 || !slices.Equal(content(t, d), before) {
			t.Errorf("Open(%d, %d) wrote: %d commands, %d writes", x.from, x.size, done, writes)
		}
	}
}

func TestOpenWithoutPower(t *testing.T) {
	d := disk(t, 20, 4, 3)
	describe(d, 4, wal.Change{Sector: 1, Data: "new"})
	d.Cut(1)
	d.Sync()
	if l, n, err := wal.Open(d, 4, 3); l != nil || n != 0 || err != api.ErrPower {
		t.Errorf("%v, %d, %d", l, n, err)
	}
}

// changes returns n changes of sectors below 20 and from 90 on.
func changes(n int) []wal.Change {
	l := make([]wal.Change, n)
	for i := range l {
		l[i] = wal.Change{Sector: i, Data: fmt.Sprint("new ", i)}
		if i >= 20 {
			l[i].Sector = 90 + i
		}
	}
	return l
}

func TestOpenMakesChanges(t *testing.T) {
	whole := strings.Repeat("w", 512)
	for _, x := range [][]wal.Change{
		changes(1),
		changes(2),
		changes(63),
		changes(64),
		{{Sector: 0, Data: ""}},
		{{Sector: 7, Data: whole}, {Sector: 4095, Data: "far"}, {Sector: 256, Data: "\x00\xff"}},
		{{Sector: 3, Data: "a"}, {Sector: 2, Data: "b"}, {Sector: 3, Data: "c"}},
	} {
		fresh := func() *sector.Disk {
			d := disk(t, 4096, 20, 65)
			describe(d, 20, x...)
			return d
		}
		d := fresh()
		if l, n, err := wal.Open(d, 20, 65); l == nil || n != len(x) || err != api.OK {
			t.Errorf("%v: %d changes, %d", x, n, err)
		}
		want := after(content(t, fresh()), applying(20, x...), true)
		d.Crash()
		if !slices.Equal(content(t, d), want) {
			t.Errorf("%v: the sectors aren't as they should be", x)
		}
		open(t, d, 20, 65)
	}
}

func TestCommandsOfOpen(t *testing.T) {
	for _, x := range [][]wal.Change{
		{{Sector: 9, Data: "a"}},
		{{Sector: 3, Data: "a"}, {Sector: 0, Data: "b"}, {Sector: 3, Data: "c"}, {Sector: 9, Data: "d"}},
	} {
		fresh := func() *sector.Disk {
			d := disk(t, 10, 4, 5)
			describe(d, 4, x...)
			return d
		}
		executes(t, fresh, func(d *sector.Disk) api.Errno {
			l, n, err := wal.Open(d, 4, 5)
			if err == api.OK && (l == nil || n != len(x)) || err != api.OK && (l != nil || n != 0) {
				t.Errorf("%v: %v, %d, %d", x, l, n, err)
			}
			return err
		}, applying(4, x...))
	}
}

// opensToNothing says that the log in sectors 4 to 7 of 20 must describe no changes.
func opensToNothing(t *testing.T, what string, d *sector.Disk) {
	t.Helper()
	before := content(t, d)
	done, _ := d.Counts()
	open(t, d, 4, 4)
	if n, writes := d.Counts(); n != done || writes != 0 || !slices.Equal(content(t, d), before) {
		t.Errorf("%s: Open wrote", what)
	}
}

func TestHeadsThatDescribeNothing(t *testing.T) {
	images := []string{"image 0", "image 1", "image 2"}
	zeros := strings.Repeat("\x00", 512)
	for what, head := range map[string]string{
		"no change":                sealed("WL\x00"),
		"no change, no checksum":   "WL\x00",
		"another mark":             sealed("WM\x01\x00\x01", images[0]),
		"another mark first":       sealed("wL\x01\x00\x01", images[0]),
		"more than images":         sealed("WL\x04\x00\x01\x00\x02\x00\x03\x00\x0a", append(images, "old 8")...),
		"65 changes":               sealed("WL\x41"+zeros[:130], slices.Repeat(images[:1], 65)...),
		"255 changes":              "WL\xff" + strings.Repeat("\xff", 509),
		"no such sector":           sealed("WL\x01\x00\x14", images[0]),
		"a far sector":             sealed("WL\x01\xff\xff", images[0]),
		"the head's sector":        sealed("WL\x01\x00\x04", images[0]),
		"an image's sector":        sealed("WL\x01\x00\x05", images[0]),
		"the last image's sector":  sealed("WL\x01\x00\x07", images[0]),
		"one of three in the log":  sealed("WL\x03\x00\x01\x00\x02\x00\x06", images...),
		"one of three is nowhere":  sealed("WL\x03\x00\x01\x00\x14\x00\x02", images...),
		"a byte behind":            full(sealed("WL\x01\x00\x01", images[0]))[:511] + "\x01",
		"a byte at once behind":    sealed("WL\x01\x00\x01", images[0]) + "\x01",
		"a checksum of the head":   sealed("WL\x01\x00\x01"),
		"a checksum of too much":   sealed("WL\x01\x00\x01", images[:2]...),
		"a checksum of the images": sealed("WL\x02\x00\x01\x00\x02", images[1], images[0]),
		"nothing but bytes FF":     strings.Repeat("\xff", 512),
		"a sector in one byte":     sealed("WL\x01\x01", images[0]),
	} {
		d := disk(t, 20, 4, 4)
		for i, s := range images {
			d.Spoil(5+i, s)
		}
		d.Spoil(4, head)
		opensToNothing(t, what, d)
	}
}

func TestChecksumOrder(t *testing.T) {
	x := wal.Change{Sector: 1, Data: "image"}
	head := headOf(x)
	sum := []byte(head[5:9])
	slices.Reverse(sum)
	d := disk(t, 20, 4, 4)
	describe(d, 4, x)
	d.Spoil(4, head[:5]+string(sum))
	opensToNothing(t, "the checksum in big-endian order", d)
	short := crc32.ChecksumIEEE([]byte(head[:5] + "image"))
	d.Spoil(4, head[:5]+string([]byte{byte(short), byte(short >> 8), byte(short >> 16), byte(short >> 24)}))
	opensToNothing(t, "the checksum of an image that isn't a complete sector", d)
	d.Spoil(4, head)
	if _, n, err := wal.Open(d, 4, 4); n != 1 || err != api.OK {
		t.Errorf("the checksum as it should be: %d, %d", n, err)
	}
}

// No head and no image with a byte that was changed is taken.
func TestDamage(t *testing.T) {
	x := []wal.Change{{Sector: 1, Data: "image 0"}, {Sector: 19, Data: "image 1"}, {Sector: 12, Data: ""}}
	for i := 4; i < 8; i++ {
		for at := range 512 {
			d := disk(t, 20, 4, 4)
			describe(d, 4, x...)
			s, _ := d.Read(i)
			b := []byte(s)
			b[at] ^= 1 << (at % 8)
			d.Spoil(i, string(b))
			opensToNothing(t, fmt.Sprintf("byte %d of sector %d", at, i), d)
		}
	}
}

// P6.2

func TestMost(t *testing.T) {
	for size := 2; size <= 65; size++ {
		if n := open(t, disk(t, 70, 5, size), 5, size).Most(); n != size-1 {
			t.Errorf("size %d: Most is %d", size, n)
		}
	}
	if n := open(t, disk(t, 9, 1, 4), 1, 4).Most(); n != 3 {
		t.Errorf("the document's example: Most is %d", n)
	}
	var l *wal.Log
	if l.Most() != 0 {
		t.Errorf("no log: Most is %d", l.Most())
	}
}

func TestCommitRefuses(t *testing.T) {
	d := disk(t, 20, 4, 4)
	l := open(t, d, 4, 4)
	before := content(t, d)
	good, long := wal.Change{Sector: 1, Data: "a"}, strings.Repeat("w", 513)
	cases := [][]wal.Change{nil, {}, {good, good, good, good}, slices.Repeat([]wal.Change{good}, 1000)}
	for _, i := range []int{-1, math.MinInt, 4, 5, 7, 20, 21, 1 << 16, 1<<16 + 1, math.MaxInt} {
		bad := wal.Change{Sector: i, Data: "a"}
		cases = append(cases, []wal.Change{bad}, []wal.Change{good, bad}, []wal.Change{bad, good, good})
	}
	cases = append(cases, []wal.Change{{Sector: 1, Data: long}}, []wal.Change{good, {Sector: 0, Data: long}, good})
	for _, powerOff := range []bool{false, true} {
		if powerOff {
			d.Cut(1)
			d.Sync()
		}
		for _, x := range cases {
			if err := l.Commit(x...); err != api.ErrArg {
				t.Errorf("off is %t: Commit(%.40v): %d", powerOff, x, err)
			}
		}
		if done, writes := d.Counts(); done != 0 || writes != 0 {
			t.Errorf("%d commands, %d writes", done, writes)
		}
	}
	if err := l.Commit(good); err != api.ErrPower {
		t.Errorf("without power: %d", err)
	}
	d.On()
	if !slices.Equal(content(t, d), before) {
		t.Error("the sectors changed")
	}
	var none *wal.Log
	if none.Commit(good) != api.ErrArg || none.Commit() != api.ErrArg {
		t.Error("Commit of no log")
	}
	if new(wal.Log).Commit(good) != api.ErrArg {
		t.Error("Commit of an empty log")
	}
}

func TestCommit(t *testing.T) {
	d := disk(t, 4096, 20, 65)
	l := open(t, d, 20, 65)
	whole := strings.Repeat("w", 512)
	want := content(t, d)
	for _, x := range [][]wal.Change{
		{{Sector: 0, Data: "a"}},
		{{Sector: 19, Data: "b"}, {Sector: 85, Data: whole}, {Sector: 4095, Data: ""}},
		{{Sector: 0, Data: "c"}, {Sector: 1, Data: "d"}, {Sector: 0, Data: "e"}},
		changes(64),
		{{Sector: 258, Data: "f"}},
	} {
		if err := l.Commit(x...); err != api.OK {
			t.Errorf("Commit(%.40v): %d", x, err)
		}
		d.Crash()
		want = after(want, committing(20, x...), true)
		if !slices.Equal(content(t, d), want) {
			t.Errorf("Commit(%.40v): the sectors aren't as they should be", x)
		}
		open(t, d, 20, 65)
	}
}

func TestCommandsOfCommit(t *testing.T) {
	whole := strings.Repeat("w", 512)
	for _, x := range [][]wal.Change{
		{{Sector: 9, Data: "a"}},
		{{Sector: 3, Data: ""}},
		{{Sector: 3, Data: "a"}, {Sector: 0, Data: whole}},
		{{Sector: 3, Data: "a"}, {Sector: 0, Data: "b"}, {Sector: 3, Data: "c"}, {Sector: 9, Data: "d"}},
	} {
		executes(t, func() *sector.Disk { return disk(t, 10, 4, 5) }, func(d *sector.Disk) api.Errno {
			return open(t, d, 4, 5).Commit(x...)
		}, committing(4, x...))
	}
}

// A Commit writes over whatever the log's sectors had.
func TestCommitOverOldImages(t *testing.T) {
	d := disk(t, 10, 0, 4)
	l := open(t, d, 0, 4)
	for _, x := range [][]wal.Change{
		{{Sector: 9, Data: "a"}, {Sector: 8, Data: "b"}, {Sector: 7, Data: "c"}},
		{{Sector: 9, Data: "d"}},
	} {
		if err := l.Commit(x...); err != api.OK {
			t.Fatalf("Commit: %d", err)
		}
	}
	d.Cut(5, 1)
	if err := l.Commit(wal.Change{Sector: 8, Data: "e"}); err != api.ErrPower {
		t.Errorf("Commit: %d", err)
	}
	d.On()
	if _, n, err := wal.Open(d, 0, 4); n != 1 || err != api.OK {
		t.Errorf("Open: %d, %d", n, err)
	}
	for i, want := range map[int]string{7: "c", 8: "e", 9: "d"} {
		if s, _ := d.Read(i); s != full(want) {
			t.Errorf("sector %d: %.9q", i, s)
		}
	}
}

func TestLogsStandAlone(t *testing.T) {
	d := disk(t, 20, 4, 8)
	l, other := open(t, d, 4, 4), open(t, d, 8, 4)
	if err := l.Commit(wal.Change{Sector: 0, Data: "a"}, wal.Change{Sector: 12, Data: "b"}); err != api.OK {
		t.Errorf("Commit: %d", err)
	}
	if err := other.Commit(wal.Change{Sector: 0, Data: "c"}, wal.Change{Sector: 3, Data: "d"}); err != api.OK {
		t.Errorf("the other's Commit: %d", err)
	}
	for i, want := range map[int]string{0: "c", 12: "b", 3: "d", 5: "a", 9: "c"} {
		if s, _ := d.Read(i); s != full(want) {
			t.Errorf("sector %d: %.9q", i, s)
		}
	}
}

func TestChangesStay(t *testing.T) {
	room := [4]wal.Change{{Sector: 9, Data: "a"}, {Sector: 8, Data: "b"}, {Sector: 7, Data: "c"}, {Sector: 6, Data: "d"}}
	want := room
	d := disk(t, 10, 0, 4)
	if err := open(t, d, 0, 4).Commit(room[:2]...); err != api.OK {
		t.Errorf("Commit: %d", err)
	}
	if room != want {
		t.Errorf("the changes were changed: %v", room)
	}
}

// P6.3

// outside returns the sectors that aren't in the log.
func outside(l []string, from, size int) []string {
	return slices.Delete(slices.Clone(l), from, from+size)
}

// keeps are some ways to keep writes.
var keeps = [][]int{nil, {1}, {1, 0}, {0, 1}, {0, 0, 1}, {0, 1, 1}}

// cuts makes a call with the power cut ahead of each of its commands, in each way to keep writes, on a disk with those
// sectors, until it isn't cut any more; it tells then the sectors that are left, and the call's error.
func cuts(t *testing.T, d *sector.Disk, sectors []string, call func() api.Errno, then func(left []string, err api.Errno)) {
	t.Helper()
	for _, keep := range keeps {
		for n := 1; ; n++ {
			put(d, sectors)
			d.Cut(n, keep...)
			err := call()
			cut := d.Off()
			d.On()
			then(content(t, d), err)
			if !cut {
				break
			}
		}
	}
}

func TestAllOrNothing(t *testing.T) {
	const n, from, size = 10, 2, 4
	for _, x := range [][]wal.Change{
		{{Sector: 9, Data: "a"}},
		{{Sector: 9, Data: "a"}, {Sector: 0, Data: "b"}},
		{{Sector: 6, Data: "a"}, {Sector: 1, Data: "b"}, {Sector: 6, Data: "c"}},
	} {
		d := disk(t, n, from, size)
		l := open(t, d, from, size)
		// Older images, which no Open may take for new ones.
		if err := l.Commit(changes(2)...); err != api.OK {
			t.Fatalf("Commit: %d", err)
		}
		before := content(t, d)
		none := outside(before, from, size)
		all := outside(after(before, committing(from, x...), true), from, size)
		reopen := func() api.Errno {
			_, _, err := wal.Open(d, from, size)
			return err
		}
		cuts(t, d, before, func() api.Errno { return l.Commit(x...) }, func(left []string, committed api.Errno) {
			put(d, left)
			if err := reopen(); err != api.OK {
				t.Fatalf("Open: %d", err)
			}
			end := outside(content(t, d), from, size)
			if !slices.Equal(end, all) && (committed == api.OK || !slices.Equal(end, none)) {
				t.Errorf("%v: Commit returned %d, and neither all nor nothing was done", x, committed)
			}
			cuts(t, d, left, reopen, func(left []string, _ api.Errno) {
				cuts(t, d, left, reopen, func(left []string, err api.Errno) {
					if err == api.OK && !slices.Equal(outside(left, from, size), end) {
						t.Errorf("%v: an Open that was broken off changed the result", x)
					}
				})
			})
		})
	}
}

// Random Commits on one disk, the power failing at random in them and in the Opens after them.
func TestRandomFailures(t *testing.T) {
	for seed := range int64(60) {
		r := rand.New(rand.NewSource(seed))
		size := 2 + r.Intn(8)
		n := size + 1 + r.Intn(12)
		from := r.Intn(n - size + 1)
		d := disk(t, n, from, size)
		l := open(t, d, from, size)
		for step := range 60 {
			x := someChanges(r, n, from, size)
			before := content(t, d)
			d.Cut(1+r.Intn(30), r.Intn(2), r.Intn(2), r.Intn(2))
			committed := l.Commit(x...)
			d.Crash(r.Intn(2), r.Intn(2))
			if l = openAtLast(t, r, d, from, size); l == nil {
				t.Fatalf("seed %d, step %d: Open", seed, step)
			}
			end := outside(content(t, d), from, size)
			all := outside(after(before, written(x...), true), from, size)
			if !slices.Equal(end, all) && (committed == api.OK || !slices.Equal(end, outside(before, from, size))) {
				t.Fatalf("seed %d, step %d: Commit returned %d, and neither all nor nothing was done", seed, step, committed)
			}
		}
	}
}

// someChanges returns changes that a log takes.
func someChanges(r *rand.Rand, n, from, size int) []wal.Change {
	x := make([]wal.Change, 1+r.Intn(size-1))
	for i := range x {
		at := r.Intn(n - size)
		if at >= from {
			at += size
		}
		x[i] = wal.Change{Sector: at, Data: strings.Repeat(fmt.Sprint(r.Intn(1000)), r.Intn(100))}
	}
	return x
}

// openAtLast opens a log, after some times at which the power failed in that.
func openAtLast(t *testing.T, r *rand.Rand, d *sector.Disk, from, size int) *wal.Log {
	t.Helper()
	for range r.Intn(3) {
		d.Cut(1+r.Intn(size+4), r.Intn(2), r.Intn(2))
		wal.Open(d, from, size)
		d.Crash(r.Intn(2))
	}
	l, _, err := wal.Open(d, from, size)
	if err != api.OK {
		return nil
	}
	return l
}
