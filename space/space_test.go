package space_test

import (
	"math"
	"math/rand"
	"slices"
	"testing"

	"stemma/api"
	"stemma/space"
)

// made returns a space of n units, of which those of l are allocated.
func made(t *testing.T, n int, l ...space.Extent) space.Space {
	t.Helper()
	s, err := space.New(n)
	if err != api.OK {
		t.Fatalf("New(%d): %d", n, err)
	}
	s, err = s.Claim(l...)
	if err != api.OK {
		t.Fatalf("New(%d), Claim(%v): %d", n, l, err)
	}
	return s
}

// drawn returns the units of a space as a text: x for one that is allocated.
func drawn(s space.Space, n int) string {
	b := make([]byte, n)
	for i := range b {
		b[i] = '.'
		if s.Has(i) {
			b[i] = 'x'
		}
	}
	return string(b)
}

// from returns the space that is drawn.
func from(t *testing.T, units string) space.Space {
	t.Helper()
	var l []space.Extent
	for i := range len(units) {
		if units[i] == 'x' {
			l = append(l, space.Extent{From: i, N: 1})
		}
	}
	return made(t, len(units), l...)
}

// looks says which units of a space must be allocated.
func looks(t *testing.T, what string, s space.Space, want string) {
	t.Helper()
	if x := drawn(s, len(want)); x != want {
		t.Errorf("%s: %s, want %s", what, x, want)
	}
	if s != from(t, want) {
		t.Errorf("%s: isn't equal to the same space made otherwise", what)
	}
}

// P5.1

func TestNew(t *testing.T) {
	for _, n := range []int{0, 1, 2, 7, 8, 9, 63, 64, 65, 4095, 4096} {
		s, err := space.New(n)
		if err != api.OK {
			t.Errorf("New(%d): %d", n, err)
		}
		if s.Free() != n {
			t.Errorf("New(%d): %d are free", n, s.Free())
		}
		for i := -1; i <= n; i++ {
			if s.Has(i) {
				t.Errorf("New(%d): unit %d is allocated", n, i)
			}
		}
	}
	for _, n := range []int{-1, -8, 4097, 1 << 20, math.MinInt, math.MaxInt} {
		if s, err := space.New(n); s != (space.Space{}) || err != api.ErrArg {
			t.Errorf("New(%d): %v, %d", n, s, err)
		}
	}
}

func TestZeroSpace(t *testing.T) {
	var s space.Space
	if n, err := space.New(0); n != s || err != api.OK {
		t.Errorf("New(0) isn't the zero Space: %v, %d", n, err)
	}
	if s.Free() != 0 || s.Has(0) || s.Has(-1) || s.Bytes() != "" {
		t.Errorf("%d are free, Has(0) is %t, Bytes is %q", s.Free(), s.Has(0), s.Bytes())
	}
	if l, after, err := s.Take(0, 0); len(l) != 0 || after != s || err != api.OK {
		t.Errorf("Take(0, 0): %v, %v, %d", l, after, err)
	}
	if l, after, err := s.Take(1, 1); l != nil || after != s || err != api.ErrSpace {
		t.Errorf("Take(1, 1): %v, %v, %d", l, after, err)
	}
	if _, err := s.Claim(space.Extent{From: 0, N: 1}); err != api.ErrArg {
		t.Errorf("Claim: %d", err)
	}
	if p, err := space.Parse(0, ""); p != s || err != api.OK {
		t.Errorf("Parse: %v, %d", p, err)
	}
}

func TestHasAndFree(t *testing.T) {
	s := from(t, "x..xx....xx")
	for i, want := range []bool{true, false, false, true, true, false, false, false, false, true, true} {
		if s.Has(i) != want {
			t.Errorf("Has(%d): %t", i, !want)
		}
	}
	for _, i := range []int{-1, -8, 11, 12, 15, 16, 4096, math.MinInt, math.MaxInt} {
		if s.Has(i) {
			t.Errorf("Has(%d)", i)
		}
	}
	if s.Free() != 6 {
		t.Errorf("%d are free", s.Free())
	}
}

func TestEqual(t *testing.T) {
	a := from(t, "x.x")
	taken, _ := from(t, "xxx").Give(space.Extent{From: 1, N: 1})
	parsed, _ := space.Parse(3, "\x05")
	if a != taken || a != parsed {
		t.Error("the same units, and not equal")
	}
	for _, units := range []string{"x.x.", "x..", "xxx", "x.xx", "", "x.x....."} {
		if a == from(t, units) {
			t.Errorf("x.x is equal to %s", units)
		}
	}
}

// P5.2

func TestTake(t *testing.T) {
	for _, x := range []struct {
		units   string
		k, most int
		want    []space.Extent
		after   string
	}{
		{".x...", 2, 2, []space.Extent{{From: 0, N: 1}, {From: 2, N: 1}}, "xxx.."},
		{".....", 3, 1, []space.Extent{{From: 0, N: 3}}, "xxx.."},
		{".....", 5, 1, []space.Extent{{From: 0, N: 5}}, "xxxxx"},
		{".....", 5, 64, []space.Extent{{From: 0, N: 5}}, "xxxxx"},
		{"xx..x.x", 2, 1, []space.Extent{{From: 2, N: 2}}, "xxxxx.x"},
		{"xx..x.x", 3, 2, []space.Extent{{From: 2, N: 2}, {From: 5, N: 1}}, "xxxxxxx"},
		{"xxxxxxx..xxxxxxx..", 4, math.MaxInt, []space.Extent{{From: 7, N: 2}, {From: 16, N: 2}}, "xxxxxxxxxxxxxxxxxx"},
		{"xxxxxxx....xxxxxxx", 3, 1, []space.Extent{{From: 7, N: 3}}, "xxxxxxxxxx.xxxxxxx"},
		{".x.", 0, 0, nil, ".x."},
		{".x.", 0, 9, nil, ".x."},
		{"xx", 0, 0, nil, "xx"},
	} {
		s := from(t, x.units)
		l, after, err := s.Take(x.k, x.most)
		if !slices.Equal(l, x.want) || err != api.OK {
			t.Errorf("%s: Take(%d, %d): %v, %d; want %v", x.units, x.k, x.most, l, err, x.want)
		}
		looks(t, "after Take of "+x.units, after, x.after)
		looks(t, "the receiver of Take", s, x.units)
	}
}

func TestTakeRefuses(t *testing.T) {
	for _, x := range []struct {
		units   string
		k, most int
		want    api.Errno
	}{
		{".x...", 2, 1, api.ErrSpace},
		{".x...", 2, 0, api.ErrSpace},
		{".....", 1, 0, api.ErrSpace},
		{".....", 6, 9, api.ErrSpace},
		{".x...", 5, 9, api.ErrSpace},
		{".x...", math.MaxInt, math.MaxInt, api.ErrSpace},
		{"xxx", 1, 1, api.ErrSpace},
		{".x....", 3, 1, api.ErrSpace}, // three adjacent ones are free, yet not those with the least numbers
		{".....", -1, 1, api.ErrArg},
		{".....", 1, -1, api.ErrArg},
		{".....", 0, -1, api.ErrArg},
		{".....", -1, -1, api.ErrArg},
		{".....", 9, -1, api.ErrArg},
		{".....", math.MinInt, math.MinInt, api.ErrArg},
	} {
		s := from(t, x.units)
		if l, after, err := s.Take(x.k, x.most); l != nil || after != (space.Space{}) || err != x.want {
			t.Errorf("%s: Take(%d, %d): %v, %v, %d; want %d", x.units, x.k, x.most, l, after, err, x.want)
		}
		looks(t, "the receiver of Take", s, x.units)
	}
}

func TestTakeOfAll(t *testing.T) {
	s := made(t, 4096)
	l, full, err := s.Take(4096, 1)
	if !slices.Equal(l, []space.Extent{{From: 0, N: 4096}}) || full.Free() != 0 || err != api.OK {
		t.Errorf("%v, %d are free, %d", l, full.Free(), err)
	}
	for i := 0; i < 4096; i += 2 {
		full, err = full.Give(space.Extent{From: i, N: 1})
		if err != api.OK {
			t.Fatalf("Give of %d: %d", i, err)
		}
	}
	if _, _, err := full.Take(2048, 2047); err != api.ErrSpace {
		t.Errorf("too few extents: %d", err)
	}
	l, full, err = full.Take(2048, 2048)
	if len(l) != 2048 || l[2047] != (space.Extent{From: 4094, N: 1}) || full.Free() != 0 || err != api.OK {
		t.Errorf("%d extents, %d are free, %d", len(l), full.Free(), err)
	}
}

// Every space of up to nine units, against the words of the chapter.
func TestTakeFromEachSpace(t *testing.T) {
	for n := range 10 {
		for set := range 1 << n {
			units := make([]byte, n)
			for i := range units {
				units[i] = ".x"[set>>i&1]
			}
			s := from(t, string(units))
			for k := range n + 2 {
				takeFrom(t, s, string(units), k)
			}
		}
	}
}

// takeFrom takes k units with each number of extents.
func takeFrom(t *testing.T, s space.Space, units string, k int) {
	t.Helper()
	var want []space.Extent
	after, got := []byte(units), 0
	for i := range units {
		if units[i] == 'x' || got == k {
			continue
		}
		after[i] = 'x'
		got++
		if n := len(want); n > 0 && want[n-1].From+want[n-1].N == i {
			want[n-1].N++
		} else {
			want = append(want, space.Extent{From: i, N: 1})
		}
	}
	for most := range len(units) + 1 {
		l, x, err := s.Take(k, most)
		if got < k || len(want) > most {
			if l != nil || x != (space.Space{}) || err != api.ErrSpace {
				t.Errorf("%s: Take(%d, %d): %v, %d", units, k, most, l, err)
			}
		} else if !slices.Equal(l, want) || drawn(x, len(units)) != string(after) || err != api.OK {
			t.Errorf("%s: Take(%d, %d): %v, %s, %d", units, k, most, l, drawn(x, len(units)), err)
		}
	}
}

func TestExtentsAreNew(t *testing.T) {
	s := from(t, ".x.")
	l, after, _ := s.Take(2, 2)
	l[0].From, l[1].N = 1, 9
	looks(t, "after a change of the extents", after, "xxx")
	again, _, _ := s.Take(2, 2)
	if !slices.Equal(again, []space.Extent{{From: 0, N: 1}, {From: 2, N: 1}}) {
		t.Errorf("%v", again)
	}
}

// P5.3

func TestGiveAndClaim(t *testing.T) {
	for _, x := range []struct {
		units string
		l     []space.Extent
		after string
	}{
		{"..........", []space.Extent{{From: 0, N: 1}}, "x........."},
		{"..........", []space.Extent{{From: 9, N: 1}, {From: 2, N: 3}}, "..xxx....x"},
		{"..........", []space.Extent{{From: 0, N: 10}}, "xxxxxxxxxx"},
		{"..........", []space.Extent{{From: 5, N: 5}, {From: 0, N: 5}}, "xxxxxxxxxx"},
		{"xx......xx", []space.Extent{{From: 4, N: 1}, {From: 3, N: 1}, {From: 5, N: 1}}, "xx.xxx..xx"},
		{"x.x.x", nil, "x.x.x"},
		{"x.x.x", []space.Extent{}, "x.x.x"},
		{"", nil, ""},
	} {
		s := from(t, x.units)
		after, err := s.Claim(x.l...)
		if err != api.OK {
			t.Errorf("%s: Claim(%v): %d", x.units, x.l, err)
		}
		looks(t, "Claim", after, x.after)
		looks(t, "the receiver of Claim", s, x.units)
		back, err := after.Give(x.l...)
		if err != api.OK {
			t.Errorf("%s: Give(%v): %d", x.after, x.l, err)
		}
		looks(t, "Give", back, x.units)
		looks(t, "the receiver of Give", after, x.after)
	}
}

// wrong are extents that no space of ten units takes, whichever of them are allocated.
var wrong = [][]space.Extent{
	{{From: 0, N: 0}},
	{{From: 3, N: -1}},
	{{From: 3, N: math.MinInt}},
	{{From: -1, N: 1}},
	{{From: -1, N: 2}},
	{{From: math.MinInt, N: 1}},
	{{From: math.MinInt, N: math.MaxInt}},
	{{From: 10, N: 1}},
	{{From: 9, N: 2}},
	{{From: 0, N: 11}},
	{{From: 15, N: 1}},
	{{From: 1, N: math.MaxInt}},
	{{From: math.MaxInt, N: 1}},
	{{From: math.MaxInt, N: math.MaxInt}},
	{{From: 2, N: 1}, {From: 2, N: 1}},
	{{From: 2, N: 3}, {From: 4, N: 2}},
	{{From: 4, N: 2}, {From: 2, N: 3}},
	{{From: 0, N: 10}, {From: 9, N: 1}},
	{{From: 1, N: 1}, {From: 3, N: 0}},
	{{From: 1, N: 1}, {From: 3, N: 1}, {From: 10, N: 1}},
}

func TestGiveAndClaimRefuse(t *testing.T) {
	free, full := from(t, ".........."), from(t, "xxxxxxxxxx")
	for _, l := range wrong {
		if x, err := free.Claim(l...); x != (space.Space{}) || err != api.ErrArg {
			t.Errorf("Claim(%v): %v, %d", l, x, err)
		}
		if x, err := full.Give(l...); x != (space.Space{}) || err != api.ErrArg {
			t.Errorf("Give(%v): %v, %d", l, x, err)
		}
	}
	looks(t, "after each Claim", free, "..........")
	looks(t, "after each Give", full, "xxxxxxxxxx")
	s := from(t, "...xxx....")
	for _, l := range [][]space.Extent{
		{{From: 2, N: 2}}, {{From: 5, N: 2}}, {{From: 0, N: 10}}, {{From: 0, N: 3}, {From: 4, N: 1}},
	} {
		if x, err := s.Claim(l...); x != (space.Space{}) || err != api.ErrArg {
			t.Errorf("Claim(%v) of what is allocated: %v, %d", l, x, err)
		}
	}
	for _, l := range [][]space.Extent{
		{{From: 2, N: 2}}, {{From: 5, N: 2}}, {{From: 0, N: 10}}, {{From: 3, N: 3}, {From: 6, N: 1}},
	} {
		if x, err := s.Give(l...); x != (space.Space{}) || err != api.ErrArg {
			t.Errorf("Give(%v) of what is free: %v, %d", l, x, err)
		}
	}
	looks(t, "after all of them", s, "...xxx....")
}

func TestArgumentsStay(t *testing.T) {
	room := [4]space.Extent{{From: 2, N: 1}, {From: 0, N: 2}, {From: 7, N: 7}, {From: 8, N: 8}}
	want := room
	s, _ := from(t, ".....").Claim(room[:2]...)
	looks(t, "Claim", s, "xxx..")
	s, _ = s.Give(room[:2]...)
	looks(t, "Give", s, ".....")
	if space.Count(room[:2]) != 3 {
		t.Error("Count")
	}
	if room != want {
		t.Errorf("the extents were changed: %v", room)
	}
}

// P5.4

func TestBytes(t *testing.T) {
	for units, want := range map[string]string{
		"":                  "",
		".":                 "\x00",
		"x":                 "\x01",
		".x.":               "\x02",
		".......x":          "\x80",
		"x......x":          "\x81",
		"xxxxxxxx":          "\xff",
		"........x":         "\x00\x01",
		"xxxxxxxxx":         "\xff\x01",
		".x.x.x.x.x":        "\xaa\x02",
		"x...............x": "\x01\x00\x01",
	} {
		s := from(t, units)
		if b := s.Bytes(); b != want {
			t.Errorf("%s: Bytes: % x, want % x", units, b, want)
		}
		if p, err := space.Parse(len(units), want); p != s || err != api.OK {
			t.Errorf("Parse(%d, % x): %v, %d", len(units), want, p, err)
		}
	}
	if b := made(t, 4096).Bytes(); len(b) != 512 {
		t.Errorf("4096 units: %d bytes", len(b))
	}
}

func TestParseRefuses(t *testing.T) {
	for _, x := range []struct {
		n    int
		s    string
		want api.Errno
	}{
		{-1, "", api.ErrArg},
		{math.MinInt, "x", api.ErrArg},
		{4097, "", api.ErrArg},
		{4097, string(make([]byte, 513)), api.ErrArg},
		{math.MaxInt, "\x00", api.ErrArg},
		{0, "\x00", api.ErrForm},
		{1, "", api.ErrForm},
		{1, "\x02", api.ErrForm},
		{1, "\x80", api.ErrForm},
		{1, "\x00\x00", api.ErrForm},
		{7, "\x80", api.ErrForm},
		{8, "", api.ErrForm},
		{8, "\x00\x00", api.ErrForm},
		{9, "\xff", api.ErrForm},
		{9, "\xff\x02", api.ErrForm},
		{9, "\xff\x03", api.ErrForm},
		{9, "\x00\x00\x00", api.ErrForm},
		{16, "\xff", api.ErrForm},
		{4096, string(make([]byte, 511)), api.ErrForm},
		{4096, string(make([]byte, 513)), api.ErrForm},
	} {
		if s, err := space.Parse(x.n, x.s); s != (space.Space{}) || err != x.want {
			t.Errorf("Parse(%d, % .9x): %v, %d; want %d", x.n, x.s, s, err, x.want)
		}
	}
}

// Parse takes exactly what Bytes returns.
func TestParseOfEachByte(t *testing.T) {
	for n := range 17 {
		for b := range 256 {
			for _, s := range []string{string([]byte{byte(b)}), string([]byte{0xa5, byte(b)})} {
				p, err := space.Parse(n, s)
				ok := len(s) == (n+7)/8 && (n%8 == 0 || b < 1<<(n%8))
				if ok != (err == api.OK) || ok && p.Bytes() != s {
					t.Errorf("Parse(%d, % x): % x, %d", n, s, p.Bytes(), err)
				}
				if ok && p != from(t, drawn(p, n)) {
					t.Errorf("Parse(%d, % x) isn't equal to the space of its units", n, s)
				}
			}
		}
	}
}

func TestCount(t *testing.T) {
	const most = 1 << 40
	for _, x := range []struct {
		ns   []int
		want int
	}{
		{nil, 0},
		{[]int{0}, 0},
		{[]int{3}, 3},
		{[]int{3, 0, 4, -5, 1}, 8},
		{[]int{-1}, 0},
		{[]int{math.MinInt, 2, math.MinInt}, 2},
		{[]int{most - 1}, most - 1},
		{[]int{most - 1, 1}, most},
		{[]int{most}, most},
		{[]int{most + 1}, most},
		{[]int{most, 1, -1}, most},
		{[]int{most - 1, 2, -9}, most},
		{[]int{math.MaxInt}, most},
		{[]int{math.MaxInt, math.MaxInt, math.MaxInt}, most},
		{[]int{math.MaxInt, math.MinInt}, most},
	} {
		var l []space.Extent
		for i, n := range x.ns {
			l = append(l, space.Extent{From: 7 - 9*i, N: n})
		}
		if n := space.Count(l); n != x.want {
			t.Errorf("Count(%v): %d, want %d", x.ns, n, x.want)
		}
	}
}

// Random calls, one behind the other, against a list of units.
func TestAgainstUnits(t *testing.T) {
	for seed := range int64(200) {
		r := rand.New(rand.NewSource(seed))
		n := r.Intn(70)
		s, units := made(t, n), make([]bool, n)
		for step := range 60 {
			s, units = stepOf(t, r, s, units)
			free := 0
			for i, x := range units {
				if !x {
					free++
				}
				if s.Has(i) != x {
					t.Fatalf("seed %d, step %d: Has(%d) is %t", seed, step, i, !x)
				}
			}
			p, err := space.Parse(n, s.Bytes())
			if s.Free() != free || p != s || err != api.OK {
				t.Fatalf("seed %d, step %d: %d are free, want %d; Parse: %d", seed, step, s.Free(), free, err)
			}
		}
	}
}

// stepOf makes one call, and returns what must be after it.
func stepOf(t *testing.T, r *rand.Rand, s space.Space, units []bool) (space.Space, []bool) {
	t.Helper()
	var l []space.Extent
	for range r.Intn(3) {
		l = append(l, space.Extent{From: r.Intn(len(units)+3) - 1, N: r.Intn(9) - 1})
	}
	after, ok, give := slices.Clone(units), true, r.Intn(2) == 0
	for _, x := range l {
		ok = ok && x.N >= 1
		for i := x.From; i < x.From+x.N && ok; i++ {
			if ok = i >= 0 && i < len(units) && after[i] == give; ok {
				after[i] = !give
			}
		}
	}
	call := s.Claim
	if give {
		call = s.Give
	}
	x, err := call(l...)
	if ok != (err == api.OK) {
		t.Fatalf("give is %t: %v: %d", give, l, err)
	}
	if !ok {
		return s, units
	}
	return x, after
}
