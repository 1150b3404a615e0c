package delta_test

import (
	"fmt"
	"math/rand"
	"testing"

	"stemma/api"
	"stemma/delta"
	"stemma/nums"
)

const maxText = 262208 // MaxBody + 64

// head returns what a delta begins with.
func head(base, target int) string { return nums.Put(base) + nums.Put(target) }

// added returns the instruction for new bytes.
func added(text string) string { return "\x00" + nums.Put(len(text)) + text }

// copied returns the instruction for bytes of the base.
func copied(at, n int) string { return "\x01" + nums.Put(at) + nums.Put(n) }

// whole returns the delta whose only instruction has all of a target; for an empty one that without an instruction.
func whole(base, target string) string {
	if target == "" {
		return head(len(base), 0)
	}
	return head(len(base), len(target)) + added(target)
}

// noise returns n bytes that do not repeat themselves.
func noise(seed int64, n int) string {
	b := make([]byte, n)
	rand.New(rand.NewSource(seed)).Read(b)
	return string(b)
}

// list returns n lines of a list of merges.
func list(seed int64, n int) []string {
	r := rand.New(rand.NewSource(seed))
	l := make([]string, n)
	for i := range l {
		l[i] = fmt.Sprintf("%c%c %d\n", 'a'+r.Intn(26), 'a'+r.Intn(26), r.Intn(100))
	}
	return l
}

// short returns a text that an error can tell.
func short(s string) string { return fmt.Sprintf("%.40q of %d bytes", s, len(s)) }

// P13.1

func TestSizes(t *testing.T) {
	for _, x := range []struct {
		d            string
		base, target int
	}{
		{"\x00\x00", 0, 0},
		{"\x04\x05\x01\x00\x02\x00\x01\x78\x01\x02\x02", 4, 5},
		{"\x7f\x80\x80", 127, 128},
		{"\x80\x80\x7f", 128, 127},
		{"\xc4\x00\x40\xc4\x00\x40", maxText, maxText},
		{"\xc4\x00\x40\x00", maxText, 0},
		{"\x00\xc4\x00\x40", 0, maxText},
		// what follows is not looked at
		{"\x01\x02\x03", 1, 2},
		{"\x01\x02\x00", 1, 2},
		{"\x01\x02\xff\xff", 1, 2},
	} {
		if base, target, err := delta.Sizes(x.d); base != x.base || target != x.target || err != api.OK {
			t.Errorf("Sizes(%q): %d, %d, %d; want %d, %d", x.d, base, target, err, x.base, x.target)
		}
	}
}

// noSizes are texts that do not begin with two lengths, and their errors.
var noSizes = []struct {
	d    string
	want api.Errno
}{
	{"", api.ErrShort},
	{"\x04", api.ErrShort},
	{"\x80", api.ErrShort},
	{"\x04\x80", api.ErrShort},
	{"\x04\xc4\x00", api.ErrShort},
	{"\xfc", api.ErrForm},
	{"\xff\x00", api.ErrForm},
	{"\x80\x7f\x00", api.ErrForm},
	{"\x04\xfc", api.ErrForm},
	{"\x04\x80\x7f", api.ErrForm},
	{"\xf9\x00\x00\x00\x00\x01\x00", api.ErrForm},
	{"\x00\xf9\x00\x00\x00\x00\x01", api.ErrForm},
	// the first number with an error
	{"\xfc\x80", api.ErrForm},
	{"\x80\x7f", api.ErrForm},
	{"\x80", api.ErrShort},
	{"\xc4\x00\x41\x00", api.ErrLong},
	{"\x00\xc4\x00\x41", api.ErrLong},
	{"\xc4\x00\x41\xc4\x00\x41", api.ErrLong},
	{"\xf9\x00\x00\x00\x00\x00\x00", api.ErrLong},
	{"\x00\xf9\x00\x00\x00\x00\x00", api.ErrLong},
	// an error of the second number comes ahead of a first one that is too great
	{"\xc4\x00\x41", api.ErrShort},
	{"\xc4\x00\x41\x80", api.ErrShort},
	{"\xc4\x00\x41\xfc", api.ErrForm},
	{"\xc4\x00\x41\x80\x7f", api.ErrForm},
}

func TestSizesRefuses(t *testing.T) {
	for _, x := range noSizes {
		if base, target, err := delta.Sizes(x.d); base != 0 || target != 0 || err != x.want {
			t.Errorf("Sizes(%q): %d, %d, %d; want %d", x.d, base, target, err, x.want)
		}
	}
}

// P13.2

func TestApply(t *testing.T) {
	long := noise(1, maxText)
	for _, x := range []struct{ base, d, want string }{
		{"abcd", "\x04\x05\x01\x00\x02\x00\x01\x78\x01\x02\x02", "abxcd"}, // the example
		{"", "\x00\x00", ""},
		{"abcd", "\x04\x00", ""},
		{"", "\x00\x03\x00\x03abc", "abc"},
		{"", "\x00\x03\x00\x01a\x00\x02bc", "abc"},
		{"abcd", "\x04\x04\x01\x00\x04", "abcd"},
		{"abcd", "\x04\x01\x01\x03\x01", "d"},
		{"abcd", "\x04\x09\x01\x01\x03\x01\x00\x04\x01\x02\x02", "bcdabcdcd"},
		{"\x00\xff", "\x02\x05\x00\x02\xff\x00\x01\x00\x02\x00\x01\x01", "\xff\x00\x00\xff\x01"},
		{long, head(maxText, maxText) + copied(0, maxText), long},
		{long, head(maxText, maxText) + added(long), long},
		{long, head(maxText, 2) + copied(maxText-1, 1) + copied(0, 1), long[maxText-1:] + long[:1]},
	} {
		if s, err := delta.Apply(x.base, x.d); s != x.want || err != api.OK {
			t.Errorf("Apply(%s, %s): %s, %d; want %s", short(x.base), short(x.d), short(s), err, short(x.want))
		}
	}
}

// refused says that Apply must have an error.
func refused(t *testing.T, base, d string, want api.Errno) {
	t.Helper()
	if s, err := delta.Apply(base, d); s != "" || err != want {
		t.Errorf("Apply(%s, %s): %s, %d; want %d", short(base), short(d), short(s), err, want)
	}
}

func TestApplyRefuses(t *testing.T) {
	for _, x := range noSizes {
		refused(t, "", x.d, x.want)
		refused(t, "abcd", x.d, x.want)
	}
	for _, d := range []string{"\x03\x00", "\x05\x00", "\x00\x00", "\x03\x01\x02", "\x05\x01", "\x84\x00\x00"} {
		refused(t, "abcd", d, api.ErrStale)
	}
	for _, x := range []struct {
		instructions string // for a target of three bytes of a base of four
		want         api.Errno
	}{
		{"\x02", api.ErrForm},
		{"\xff\x01a", api.ErrForm},
		{"0\x01a", api.ErrForm},
		// numbers that are none
		{"\x00", api.ErrShort},
		{"\x00\x80", api.ErrShort},
		{"\x00\xfc", api.ErrForm},
		{"\x00\x80\x01a", api.ErrForm},
		{"\x01", api.ErrShort},
		{"\x01\x00", api.ErrShort},
		{"\x01\x80", api.ErrShort},
		{"\x01\xfc", api.ErrForm},
		{"\x01\xfc\x80", api.ErrForm},
		{"\x01\x00\xfc", api.ErrForm},
		{"\x01\x00\x80\x03", api.ErrForm},
		{"\x01\x80\x00\x03", api.ErrForm},
		{"\x01\x09\x80", api.ErrShort}, // ahead of the position
		// no bytes, and bytes that aren't there
		{"\x00\x00", api.ErrForm},
		{"\x00\x00\x00\x03abc", api.ErrForm},
		{"\x01\x00\x00", api.ErrForm},
		{"\x01\x04\x00", api.ErrForm},
		{"\x01\x04\x01", api.ErrForm},
		{"\x01\x05\x01", api.ErrForm},
		{"\x01\x00\x05", api.ErrForm},
		{"\x01\x02\x03", api.ErrForm},
		{"\x01\xf9\x00\x00\x00\x00\x00\x01", api.ErrForm},
		{"\x01\x00\xf9\x00\x00\x00\x00\x00", api.ErrForm},
		{"\x01\xf9\x00\x00\x00\x00\x00\xf9\x00\x00\x00\x00\x00", api.ErrForm},
		{"\x00\x03ab", api.ErrShort},
		{"\x00\x01", api.ErrShort},
		{"\x00\x04abc", api.ErrShort}, // ahead of the target's length
		{"\x00\xf9\x00\x00\x00\x00\x00abc", api.ErrShort},
		// a target that is too long, or too short
		{"\x00\x04abcd", api.ErrLong},
		{"\x01\x00\x04", api.ErrLong},
		{"\x01\x00\x03\x00\x01x", api.ErrLong},
		{"\x01\x00\x03\x01\x00\x01", api.ErrLong},
		{"\x00\x02ab\x00\x02cd", api.ErrLong},
		{"", api.ErrTail},
		{"\x00\x02ab", api.ErrTail},
		{"\x01\x02\x02", api.ErrTail},
		{"\x00\x01a\x01\x00\x01", api.ErrTail},
		// the first instruction with an error
		{"\x00\x03abc\x02", api.ErrForm},
		{"\x00\x03abc\x00", api.ErrShort},
		{"\x00\x03abc\x00\x00", api.ErrForm},
		{"\x00\x03abc\x00\x02x", api.ErrShort},
		{"\x00\x03abc\x01\x04\x01", api.ErrForm},
		{"\x01\x00\x04\x02", api.ErrLong},
		{"\x00\x04abcd\x00", api.ErrLong},
		{"\x01\x00\x01\x02", api.ErrForm},
		{"\x01\x00\x01\x00", api.ErrShort},
	} {
		refused(t, "abcd", "\x04\x03"+x.instructions, x.want)
	}
	long := noise(1, maxText)
	refused(t, long, head(maxText, maxText)+copied(0, maxText)+copied(0, 1), api.ErrLong)
	refused(t, long, head(maxText, maxText)+copied(0, maxText-1), api.ErrTail)
	refused(t, long+"x", head(maxText, 1)+copied(0, 1), api.ErrStale)
	refused(t, "", head(0, 3)+"\x01\x00\x01", api.ErrForm)
	refused(t, "", head(0, 0)+"\x00\x01x", api.ErrLong)
	refused(t, "", head(0, 0)+"\x00\x00", api.ErrForm)
}

// model is Apply in the chapter's words.
func model(base, d string) (string, api.Errno) {
	var err api.Errno
	number := func() int {
		if err != api.OK {
			return 0
		}
		n, size, failed := nums.Get(d)
		d, err = d[size:], failed
		return n
	}
	from, to := number(), number()
	switch {
	case err != api.OK:
		return "", err
	case from > maxText || to > maxText:
		return "", api.ErrLong
	case from != len(base):
		return "", api.ErrStale
	}
	target := ""
	for d != "" {
		kind := d[0]
		if kind > 1 {
			return "", api.ErrForm
		}
		d = d[1:]
		at := 0
		if kind == 1 {
			at = number()
		}
		n := number()
		switch {
		case err != api.OK:
			return "", err
		case n == 0 || kind == 1 && at+n > len(base):
			return "", api.ErrForm
		case kind == 1:
			target += base[at : at+n]
		case n > len(d):
			return "", api.ErrShort
		default:
			target, d = target+d[:n], d[n:]
		}
		if len(target) > to {
			return "", api.ErrLong
		}
	}
	if len(target) < to {
		return "", api.ErrTail
	}
	return target, api.OK
}

// someDelta returns a delta from a base; some of its numbers and bytes may be wrong.
func someDelta(r *rand.Rand, base string) string {
	perhaps := func(n int) int {
		if r.Intn(12) == 0 {
			return max(0, n+r.Intn(5)-2)
		}
		return n
	}
	size, body := 0, ""
	for range r.Intn(5) {
		n := 1 + r.Intn(200)
		if r.Intn(2) == 0 {
			body += "\x00" + nums.Put(perhaps(n)) + noise(r.Int63(), n)
			size += n
		} else if n <= len(base) {
			body += copied(perhaps(r.Intn(len(base)-n+1)), perhaps(n))
			size += n
		}
	}
	b := []byte(nums.Put(perhaps(len(base))) + nums.Put(perhaps(size)) + body)
	if r.Intn(4) == 0 {
		b[r.Intn(len(b))] = byte(r.Intn(256))
	}
	if r.Intn(4) == 0 {
		b = b[:r.Intn(len(b)+1)]
	}
	return string(b)
}

func TestApplyAsModel(t *testing.T) {
	seen := map[api.Errno]int{}
	for seed := range int64(40000) {
		r := rand.New(rand.NewSource(seed))
		base := noise(seed, r.Intn(300))
		d := someDelta(r, base)
		want, wantErr := model(base, d)
		s, err := delta.Apply(base, d)
		if s != want || err != wantErr {
			t.Fatalf("seed %d: Apply(%q, %q): %q, %d; want %q, %d", seed, base, d, s, err, want, wantErr)
		}
		seen[err]++
	}
	for _, err := range []api.Errno{api.OK, api.ErrForm, api.ErrShort, api.ErrTail, api.ErrLong, api.ErrStale} {
		if seen[err] < 500 {
			t.Errorf("the error %d was seen %d times only", err, seen[err])
		}
	}
}
