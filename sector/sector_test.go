package sector_test

import (
	"math"
	"math/rand"
	"slices"
	"strings"
	"testing"

	"stemma/api"
	"stemma/sector"
)

// disk returns a disk of n sectors.
func disk(t *testing.T, n int) *sector.Disk {
	t.Helper()
	d, err := sector.New(n)
	if d == nil || err != api.OK {
		t.Fatalf("New(%d): %v, %d", n, d, err)
	}
	return d
}

// full returns the bytes of a sector to which data was written.
func full(data string) string { return data + strings.Repeat("\x00", 512-len(data)) }

// holds says what each sector must read as.
func holds(t *testing.T, d *sector.Disk, what string, want ...string) {
	t.Helper()
	for i, x := range want {
		if s, err := d.Read(i); s != full(x) || err != api.OK {
			t.Errorf("%s: sector %d: %.20q of %d bytes, %d; want %q", what, i, s, len(s), err, x)
		}
	}
}

// counts says what Counts must answer.
func counts(t *testing.T, d *sector.Disk, what string, done, writes int) {
	t.Helper()
	if x, y := d.Counts(); x != done || y != writes {
		t.Errorf("%s: %d done, %d writes; want %d, %d", what, x, y, done, writes)
	}
}

// is says what an error must be.
func is(t *testing.T, what string, err, want api.Errno) {
	t.Helper()
	if err != want {
		t.Errorf("%s: error %d, want %d", what, err, want)
	}
}

// write writes to sectors what their numbers, and data, say.
func write(t *testing.T, d *sector.Disk, i int, data string) {
	t.Helper()
	is(t, "Write of "+data, d.Write(i, data), api.OK)
}

// P4.1

func TestNew(t *testing.T) {
	for _, n := range []int{1, 2, 20, 4095, 4096} {
		d := disk(t, n)
		if d.Size() != n {
			t.Errorf("New(%d): %d sectors", n, d.Size())
		}
		if d.Off() {
			t.Errorf("New(%d): its power is off", n)
		}
		counts(t, d, "new", 0, 0)
		for i := range n {
			if s, err := d.Read(i); s != full("") || err != api.OK {
				t.Fatalf("New(%d): sector %d: %q, %d", n, i, s, err)
			}
		}
	}
	for _, n := range []int{0, -1, 4097, 1 << 20, math.MinInt, math.MaxInt} {
		if d, err := sector.New(n); d != nil || err != api.ErrArg {
			t.Errorf("New(%d): %v, %d", n, d, err)
		}
	}
}

func TestDisksStandAlone(t *testing.T) {
	d, other := disk(t, 2), disk(t, 2)
	write(t, d, 0, "a")
	is(t, "Sync", d.Sync(), api.OK)
	d.Cut(1)
	holds(t, other, "the other disk", "", "")
	counts(t, other, "the other disk", 0, 0)
	is(t, "the other disk's Sync", other.Sync(), api.OK)
}

func TestReadAndWrite(t *testing.T) {
	d := disk(t, 3)
	whole := strings.Repeat("w", 512)
	write(t, d, 1, "ab")
	write(t, d, 2, whole)
	holds(t, d, "two writes", "", "ab", whole)
	write(t, d, 1, "c")
	holds(t, d, "a shorter one", "", "c", whole)
	write(t, d, 2, "")
	holds(t, d, "an empty one", "", "c", "")
	is(t, "Sync", d.Sync(), api.OK)
	holds(t, d, "synced", "", "c", "")
	write(t, d, 1, "d\x00\xff")
	holds(t, d, "a write after it", "", "d\x00\xff", "")
	is(t, "Sync", d.Sync(), api.OK)
	holds(t, d, "synced again", "", "d\x00\xff", "")
}

func TestNoSuchSector(t *testing.T) {
	d := disk(t, 3)
	for _, i := range []int{-1, 3, 4, 4096, math.MinInt, math.MaxInt} {
		if s, err := d.Read(i); s != "" || err != api.ErrArg {
			t.Errorf("Read(%d): %q, %d", i, s, err)
		}
		is(t, "Write", d.Write(i, "a"), api.ErrArg)
		is(t, "Spoil", d.Spoil(i, "a"), api.ErrArg)
	}
	long := strings.Repeat("w", 513)
	is(t, "a long Write", d.Write(0, long), api.ErrArg)
	is(t, "a long Spoil", d.Spoil(0, long), api.ErrArg)
	is(t, "a very long Write", d.Write(0, strings.Repeat(long, 100)), api.ErrArg)
	holds(t, d, "nothing was written", "", "", "")
	counts(t, d, "nothing was written", 0, 0)
	d.Cut(1)
	is(t, "Sync", d.Sync(), api.ErrPower)
	if s, err := d.Read(3); s != "" || err != api.ErrArg {
		t.Errorf("no such sector, no power: Read: %q, %d", s, err)
	}
	is(t, "no such sector, no power: Write", d.Write(3, "a"), api.ErrArg)
	is(t, "too long, no power: Write", d.Write(0, long), api.ErrArg)
	is(t, "no such sector, no power: Spoil", d.Spoil(-1, "a"), api.ErrArg)
	is(t, "too long, no power: Spoil", d.Spoil(0, long), api.ErrArg)
}

func TestSyncMakesWritesDurable(t *testing.T) {
	d := disk(t, 3)
	write(t, d, 0, "a")
	write(t, d, 1, "b")
	write(t, d, 0, "c")
	counts(t, d, "three writes", 3, 3)
	is(t, "Sync", d.Sync(), api.OK)
	counts(t, d, "synced", 4, 0)
	write(t, d, 1, "d")
	write(t, d, 2, "e")
	d.Crash()
	holds(t, d, "after Crash", "c", "b", "")
	is(t, "Sync of nothing", d.Sync(), api.OK)
	counts(t, d, "Sync of nothing", 7, 0)
}

// P4.2

func TestCut(t *testing.T) {
	for n := 1; n <= 6; n++ {
		d := disk(t, 3)
		write(t, d, 0, "before")
		d.Cut(n)
		steps := []func() api.Errno{
			func() api.Errno { return d.Write(0, "a") },
			func() api.Errno { return d.Write(1, "b") },
			d.Sync,
			func() api.Errno { return d.Write(1, "c") },
			d.Sync,
			func() api.Errno { return d.Write(2, "d") },
		}
		for i, step := range steps {
			want := api.OK
			if i+1 >= n {
				want = api.ErrPower
			}
			is(t, "step", step(), want)
			if d.Off() != (i+1 >= n) {
				t.Errorf("Cut(%d), step %d: off is %t", n, i+1, d.Off())
			}
		}
		if s, err := d.Read(0); s != "" || err != api.ErrPower {
			t.Errorf("Cut(%d): Read: %q, %d", n, s, err)
		}
		counts(t, d, "off", n, 0)
		d.On()
		counts(t, d, "on", n, 0)
		switch {
		case n <= 3:
			holds(t, d, "cut ahead of the first Sync", "", "", "")
		case n <= 5:
			holds(t, d, "cut ahead of the second Sync", "a", "b", "")
		default:
			holds(t, d, "cut after it", "a", "c", "")
		}
	}
}

func TestCutOfLessThanOne(t *testing.T) {
	for _, n := range []int{0, -1, -7, math.MinInt} {
		d := disk(t, 1)
		d.Cut(n)
		is(t, "the first write", d.Write(0, "a"), api.ErrPower)
		counts(t, d, "cut at once", 0, 0)
		d.On()
		is(t, "the next", d.Write(0, "a"), api.OK)
	}
}

func TestCutFarAway(t *testing.T) {
	d := disk(t, 1)
	d.Cut(math.MaxInt)
	for range 1000 {
		write(t, d, 0, "a")
	}
	d.Cut(1001)
	for range 1000 {
		is(t, "Sync", d.Sync(), api.OK)
	}
	is(t, "the 1001st", d.Sync(), api.ErrPower)
}

func TestLaterCutReplaces(t *testing.T) {
	d := disk(t, 2)
	d.Cut(1, 1)
	d.Cut(3, 0)
	write(t, d, 0, "a")
	write(t, d, 1, "b")
	is(t, "the third", d.Write(0, "c"), api.ErrPower)
	d.On()
	holds(t, d, "the later Cut's keep", "", "")
	d.Cut(3)
	write(t, d, 0, "a")
	d.Cut(2, 1)
	write(t, d, 1, "b")
	is(t, "the second", d.Sync(), api.ErrPower)
	d.On()
	holds(t, d, "the later Cut's keep", "a", "b")
	d.Cut(2, 1)
	d.Cut(1)
	is(t, "the first", d.Write(0, "c"), api.ErrPower)
	d.On()
	holds(t, d, "the later Cut keeps nothing", "a", "b")
}

func TestWhatDoesNotModify(t *testing.T) {
	d := disk(t, 2)
	d.Cut(2, 1)
	d.Read(0)
	d.Read(7)
	d.Size()
	d.Off()
	d.Counts()
	is(t, "a wrong Write", d.Write(2, "a"), api.ErrArg)
	is(t, "a long Write", d.Write(0, strings.Repeat("a", 513)), api.ErrArg)
	is(t, "Spoil", d.Spoil(1, "spoilt"), api.OK)
	is(t, "a wrong Spoil", d.Spoil(9, "spoilt"), api.ErrArg)
	is(t, "the first", d.Write(0, "a"), api.OK)
	d.Read(0)
	is(t, "the second", d.Sync(), api.ErrPower)
	d.On()
	holds(t, d, "the first was kept", "a", "spoilt")
	counts(t, d, "one was executed", 1, 0)
}

func TestOneCutFailsOnce(t *testing.T) {
	d := disk(t, 1)
	d.Cut(1)
	is(t, "the first", d.Sync(), api.ErrPower)
	is(t, "no power", d.Sync(), api.ErrPower)
	is(t, "no power", d.Write(0, "a"), api.ErrPower)
	d.On()
	for range 5 {
		is(t, "power", d.Sync(), api.OK)
	}
	counts(t, d, "five", 5, 0)
}

// keeps are keeps, with the writes of eight that each one keeps.
var keeps = []struct {
	keep []int
	want string
}{
	{nil, "........"},
	{[]int{}, "........"},
	{[]int{0}, "........"},
	{[]int{1}, "oooooooo"},
	{[]int{2}, "........"},
	{[]int{-1}, "oooooooo"},
	{[]int{-2}, "........"},
	{[]int{math.MaxInt}, "oooooooo"},
	{[]int{math.MinInt}, "........"},
	{[]int{1, 0}, "o.o.o.o."},
	{[]int{0, 1}, ".o.o.o.o"},
	{[]int{0, 0, 3}, "..o..o.."},
	{[]int{4, -3, 1}, ".oo.oo.o"},
	{[]int{1, 0, 0, 0, 0, 0, 0, 1}, "o......o"},
	{[]int{0, 0, 0, 0, 0, 0, 0, 0, 1}, "........"},
	{[]int{0, 0, 0, 0, 0, 0, 0, 1, 1, 1}, ".......o"},
}

func TestKeep(t *testing.T) {
	fails := map[string]func(d *sector.Disk, keep ...int){
		"Crash": (*sector.Disk).Crash,
		"Cut ahead of Sync": func(d *sector.Disk, keep ...int) {
			d.Cut(1, keep...)
			is(t, "Sync", d.Sync(), api.ErrPower)
			d.On()
		},
		"Cut ahead of Write": func(d *sector.Disk, keep ...int) {
			d.Cut(1, keep...)
			is(t, "Write", d.Write(0, "never"), api.ErrPower)
			d.On()
		},
	}
	for what, fail := range fails {
		for _, x := range keeps {
			d := disk(t, 8)
			for i := range 8 {
				write(t, d, i, "o")
			}
			fail(d, x.keep...)
			counts(t, d, what, 8, 0)
			for i := range 8 {
				want := full(strings.Trim(x.want[i:i+1], "."))
				if s, err := d.Read(i); s != want || err != api.OK {
					t.Errorf("%s(%v): sector %d: %.3q, %d; want %.3q", what, x.keep, i, s, err, want)
				}
			}
			d.Crash()
			if s, _ := d.Read(0); (s == full("o")) != (x.want[0] == 'o') {
				t.Errorf("%s(%v): what was kept isn't durable", what, x.keep)
			}
		}
	}
}

func TestKeptInOrder(t *testing.T) {
	d := disk(t, 2)
	write(t, d, 0, "first")
	write(t, d, 1, "second")
	write(t, d, 0, "third")
	d.Crash(1, 0)
	holds(t, d, "the document's example", "third", "")
	write(t, d, 0, "fourth")
	write(t, d, 0, "fifth")
	d.Crash(1, 0)
	holds(t, d, "the first of two", "fourth", "")
}

func TestKeepCountsWhatIsNotDurable(t *testing.T) {
	d := disk(t, 4)
	write(t, d, 0, "a")
	is(t, "Sync", d.Sync(), api.OK)
	write(t, d, 1, "b")
	write(t, d, 2, "c")
	write(t, d, 3, "d")
	is(t, "Spoil", d.Spoil(1, "x"), api.OK)
	counts(t, d, "one was lost", 5, 2)
	d.Crash(1, 0)
	holds(t, d, "the index counts what is left", "a", "x", "c", "")
}

func TestKeepIsNotRetained(t *testing.T) {
	d := disk(t, 2)
	room := [4]int{1, 0, 7, 7}
	keep := room[:2]
	d.Cut(3, keep...)
	keep[0], keep[1] = 0, 1
	write(t, d, 0, "a")
	write(t, d, 1, "b")
	is(t, "Sync", d.Sync(), api.ErrPower)
	d.On()
	holds(t, d, "the keep at the time of Cut", "a", "")
	if room != [4]int{0, 1, 7, 7} {
		t.Errorf("keep was changed: %v", room)
	}
	write(t, d, 0, "c")
	d.Crash(keep...)
	if room != [4]int{0, 1, 7, 7} {
		t.Errorf("keep was changed: %v", room)
	}
}

// P4.3

func TestCrash(t *testing.T) {
	d := disk(t, 2)
	write(t, d, 0, "a")
	d.Crash(1)
	if d.Off() {
		t.Error("Crash leaves the power off")
	}
	holds(t, d, "kept", "a", "")
	d.Cut(1)
	d.Crash()
	is(t, "Crash takes back a Cut", d.Write(0, "b"), api.OK)
	d.Cut(1)
	is(t, "Write", d.Write(1, "c"), api.ErrPower)
	d.Crash(1)
	if d.Off() {
		t.Error("Crash leaves the power off")
	}
	holds(t, d, "what was lost stays lost", "a", "")
	counts(t, d, "what was executed", 2, 0)
}

func TestOn(t *testing.T) {
	d := disk(t, 2)
	write(t, d, 0, "a")
	d.Cut(1, 1)
	d.On()
	counts(t, d, "On keeps the writes", 1, 1)
	is(t, "On takes back a Cut", d.Write(1, "b"), api.OK)
	holds(t, d, "on all along", "a", "b")
	d.Cut(1)
	is(t, "Sync", d.Sync(), api.ErrPower)
	d.Cut(1, 1)
	if !d.Off() {
		t.Error("Cut switches the power on")
	}
	d.On()
	if d.Off() {
		t.Error("On leaves the power off")
	}
	is(t, "a Cut while the power was off is taken back", d.Write(1, "b"), api.OK)
	is(t, "and stays so", d.Sync(), api.OK)
}

func TestSpoil(t *testing.T) {
	d := disk(t, 3)
	write(t, d, 0, "a")
	is(t, "Sync", d.Sync(), api.OK)
	write(t, d, 0, "b")
	write(t, d, 1, "c")
	write(t, d, 0, "d")
	write(t, d, 2, "e")
	is(t, "Spoil", d.Spoil(0, "spoilt"), api.OK)
	counts(t, d, "two writes are lost, none is executed", 6, 2)
	holds(t, d, "spoilt", "spoilt", "c", "e")
	d.Crash()
	holds(t, d, "that is durable", "spoilt", "", "")
	is(t, "Spoil with less", d.Spoil(0, "s"), api.OK)
	holds(t, d, "less", "s", "", "")
	whole := strings.Repeat("s", 512)
	is(t, "Spoil with a whole sector", d.Spoil(1, whole), api.OK)
	holds(t, d, "a whole sector", "s", whole, "")
	write(t, d, 0, "f")
	is(t, "Sync", d.Sync(), api.OK)
	holds(t, d, "a later write", "f", whole, "")
}

func TestSpoilWithoutPower(t *testing.T) {
	d := disk(t, 2)
	write(t, d, 0, "a")
	d.Cut(1, 1)
	is(t, "Sync", d.Sync(), api.ErrPower)
	is(t, "Spoil", d.Spoil(0, "spoilt"), api.OK)
	if !d.Off() {
		t.Error("Spoil switches the power on")
	}
	if s, err := d.Read(0); s != "" || err != api.ErrPower {
		t.Errorf("Read: %q, %d", s, err)
	}
	counts(t, d, "Spoil doesn't count", 1, 0)
	d.On()
	holds(t, d, "spoilt", "spoilt", "")
}

func TestNilDisk(t *testing.T) {
	var d *sector.Disk
	if s, err := d.Read(0); s != "" || err != api.ErrArg {
		t.Errorf("Read: %q, %d", s, err)
	}
	is(t, "Write", d.Write(0, "a"), api.ErrArg)
	is(t, "Sync", d.Sync(), api.ErrArg)
	is(t, "Spoil", d.Spoil(0, "a"), api.ErrArg)
	if d.Size() != 0 || d.Off() {
		t.Errorf("Size %d, Off %t", d.Size(), d.Off())
	}
	counts(t, d, "no disk", 0, 0)
	d.Cut(1, 1)
	d.Crash(1)
	d.On()
}

// model is a disk as the chapter words it: what is read is looked up among the writes.
type model struct {
	durable  []string
	at       []int
	data     []string
	done     int
	cut      bool
	left     int
	keep     []int
	powerOff bool
}

func (m *model) read(i int) string {
	for k := len(m.at) - 1; k >= 0; k-- {
		if m.at[k] == i {
			return m.data[k]
		}
	}
	return m.durable[i]
}

func (m *model) fail(keep []int) {
	for k, i := range m.at {
		if len(keep) > 0 && keep[k%len(keep)]&1 == 1 {
			m.durable[i] = m.data[k]
		}
	}
	m.at, m.data, m.cut, m.powerOff = nil, nil, false, true
}

// begin counts a modifying command down, and says whether it is executed.
func (m *model) begin() bool {
	if m.powerOff {
		return false
	}
	if m.cut {
		m.left--
		if m.left == 0 {
			m.fail(m.keep)
			return false
		}
	}
	m.done++
	return true
}

func (m *model) write(i int, data string) bool {
	if !m.begin() {
		return false
	}
	m.at, m.data = append(m.at, i), append(m.data, full(data))
	return true
}

func (m *model) sync() bool {
	if !m.begin() {
		return false
	}
	for k, i := range m.at {
		m.durable[i] = m.data[k]
	}
	m.at, m.data = nil, nil
	return true
}

func (m *model) spoil(i int, data string) {
	var at []int
	var left []string
	for k := range m.at {
		if m.at[k] != i {
			at, left = append(at, m.at[k]), append(left, m.data[k])
		}
	}
	m.at, m.data, m.durable[i] = at, left, full(data)
}

func TestAgainstModel(t *testing.T) {
	const size = 5
	for seed := range int64(300) {
		r := rand.New(rand.NewSource(seed))
		d := disk(t, size)
		m := &model{durable: slices.Repeat([]string{full("")}, size)}
		for step := range 120 {
			i, data := r.Intn(size), strings.Repeat(string(rune('a'+r.Intn(26))), r.Intn(513))
			keep := make([]int, r.Intn(4))
			for k := range keep {
				keep[k] = r.Intn(5) - 2
			}
			same := true
			switch r.Intn(16) {
			default:
				same = (d.Write(i, data) == api.OK) == m.write(i, data)
			case 0, 1:
				same = (d.Sync() == api.OK) == m.sync()
			case 2:
				n := r.Intn(9) - 1
				d.Cut(n, keep...)
				m.cut, m.left, m.keep = true, max(n, 1), keep
			case 3:
				d.Crash(keep...)
				m.fail(keep)
				m.powerOff = false
			case 4, 5:
				d.On()
				m.powerOff, m.cut = false, false
			case 6:
				same = d.Spoil(i, data) == api.OK
				m.spoil(i, data)
			}
			if !same || !agree(d, m) {
				t.Fatalf("seed %d, step %d: the disk isn't what it should be", seed, step)
			}
		}
	}
}

// agree reports whether disk and model answer the same.
func agree(d *sector.Disk, m *model) bool {
	done, writes := d.Counts()
	if d.Off() != m.powerOff || done != m.done || writes != len(m.at) {
		return false
	}
	for i := range d.Size() {
		s, err := d.Read(i)
		if m.powerOff && (s != "" || err != api.ErrPower) || !m.powerOff && (s != m.read(i) || err != api.OK) {
			return false
		}
	}
	return true
}

// The calls end soon, however many writes wait for a Sync.
func TestManyWrites(t *testing.T) {
	d := disk(t, 4096)
	for k := range 200000 {
		if d.Write(k%4096, "x") != api.OK {
			t.Fatal("Write")
		}
		if s, err := d.Read((k + 1) % 4096); len(s) != 512 || err != api.OK {
			t.Fatal("Read")
		}
	}
	counts(t, d, "many", 200000, 200000)
	d.Crash(1, 0, 0)
	counts(t, d, "many", 200000, 0)
}
