package nums_test

import (
	"math"
	"math/rand"
	"slices"
	"strings"
	"testing"

	"stemma/api"
	"stemma/nums"
)

// edges are the encodings of the least and the greatest numbers of each length.
var edges = []struct {
	n    int
	want string
}{
	{0, "\x00"},
	{1, "\x01"},
	{127, "\x7f"},
	{128, "\x80\x80"},
	{129, "\x80\x81"},
	{300, "\x81\x2c"},
	{1<<14 - 1, "\xbf\xff"},
	{1 << 14, "\xc0\x40\x00"},
	{1<<21 - 1, "\xdf\xff\xff"},
	{1 << 21, "\xe0\x20\x00\x00"},
	{0x01234567, "\xe1\x23\x45\x67"},
	{1<<28 - 1, "\xef\xff\xff\xff"},
	{1 << 28, "\xf0\x10\x00\x00\x00"},
	{0x0123456789, "\xf1\x23\x45\x67\x89"},
	{1<<35 - 1, "\xf7\xff\xff\xff\xff"},
	{1 << 35, "\xf8\x08\x00\x00\x00\x00"},
	{api.MaxNumber - 1, "\xf8\xff\xff\xff\xff\xff"},
	{api.MaxNumber, "\xf9\x00\x00\x00\x00\x00"},
}

// numbers to try: all small ones, and those about each power of 2.
func numbers() []int {
	var l []int
	for n := range 40000 {
		l = append(l, n)
	}
	for k := 15; k <= 40; k++ {
		for d := -300; d <= 300; d++ {
			l = append(l, 1<<k+d)
		}
	}
	r := rand.New(rand.NewSource(1))
	for range 20000 {
		l = append(l, r.Intn(api.MaxNumber+1))
	}
	l = slices.DeleteFunc(l, func(n int) bool { return n > api.MaxNumber })
	slices.Sort(l)
	return slices.Compact(l)
}

// P1.1

func TestPut(t *testing.T) {
	for _, x := range edges {
		if s := nums.Put(x.n); s != x.want {
			t.Errorf("Put(%d): % x, want % x", x.n, s, x.want)
		}
	}
	for _, n := range []int{-1, -128, math.MinInt, api.MaxNumber + 1, 1 << 41, 1 << 42, math.MaxInt} {
		if s := nums.Put(n); s != "" {
			t.Errorf("Put(%d): % x, want nothing", n, s)
		}
	}
}

func TestGet(t *testing.T) {
	for _, x := range edges {
		for _, tail := range []string{"", "\x00", "\xff", "more behind it"} {
			if n, k, err := nums.Get(x.want + tail); n != x.n || k != len(x.want) || err != api.OK {
				t.Errorf("Get(% x, %q): %d %d %d, want %d %d", x.want, tail, n, k, err, x.n, len(x.want))
			}
		}
	}
}

func TestGetOfPut(t *testing.T) {
	for _, n := range numbers() {
		s := nums.Put(n)
		if m, k, err := nums.Get(s); m != n || k != len(s) || err != api.OK {
			t.Errorf("Get(Put(%d)): %d %d %d", n, m, k, err)
		}
	}
}

func TestGetShort(t *testing.T) {
	for _, x := range edges {
		for i := range len(x.want) {
			checkGetError(t, x.want[:i], api.ErrShort)
		}
	}
	// What there is may already be wrong: that it is short comes first.
	for _, s := range []string{"", "\x80", "\xc0", "\xc0\x00", "\xe0\x00\x00", "\xf0\x00\x00\x00", "\xf8", "\xf8\x00\x00\x00\x00", "\xfb\xff\xff\xff\xff", "\xf9\x00\x00\x00\x01"} {
		checkGetError(t, s, api.ErrShort)
	}
}

func TestGetForm(t *testing.T) {
	for _, s := range []string{
		// more than five bits 1, which comes ahead of what is short
		"\xfc", "\xfd", "\xfe", "\xff", "\xfc\x10\x00\x00\x00\x00\x00", "\xfe\x80\x00\x00\x00\x00\x00\x00", "\xff\xff\xff\xff\xff\xff\xff\xff\xff\xff",
		// fewer bytes would do
		"\x80\x00", "\x80\x7f", "\xc0\x00\x00", "\xc0\x3f\xff", "\xe0\x00\x00\x00", "\xe0\x1f\xff\xff", "\xf0\x00\x00\x00\x00", "\xf0\x0f\xff\xff\xff", "\xf8\x00\x00\x00\x00\x00", "\xf8\x07\xff\xff\xff\xff",
		// above MaxNumber
		"\xf9\x00\x00\x00\x00\x01", "\xf9\xff\xff\xff\xff\xff", "\xfa\x00\x00\x00\x00\x00", "\xfb\xff\xff\xff\xff\xff",
	} {
		checkGetError(t, s, api.ErrForm)
		checkGetError(t, s+"tail", api.ErrForm)
	}
}

func checkGetError(t *testing.T, s string, want api.Errno) {
	t.Helper()
	if n, k, err := nums.Get(s); n != 0 || k != 0 || err != want {
		t.Errorf("Get(% x): %d %d %d, want 0 0 %d", s, n, k, err, want)
	}
}

// TestGetAll asks Get of every text of three bytes with such a beginning: it takes just what Put makes.
func TestGetAll(t *testing.T) {
	for i := range 1 << 24 {
		if i>>16 >= 0xe0 && i&0xffff != 0 || i>>16 < 0x80 && i&0xff != 0 {
			continue
		}
		s := string([]byte{byte(i >> 16), byte(i >> 8), byte(i)})
		n, k, err := nums.Get(s)
		if err == api.OK && nums.Put(n) != s[:k] {
			t.Fatalf("Get(% x): %d, which is written % x", s, n, nums.Put(n))
		}
		if want := stateOf(s); err != want {
			t.Fatalf("Get(% x): %d, want %d", s, err, want)
		}
	}
}

// stateOf tells what Get has to say of three bytes.
func stateOf(s string) api.Errno {
	switch c := s[0]; {
	case c < 0x80:
		return api.OK
	case c >= 0xfc:
		return api.ErrForm
	case c >= 0xe0:
		return api.ErrShort
	case c == 0x80 && s[1] < 0x80, c == 0xc0 && s[1] < 0x40:
		return api.ErrForm
	}
	return api.OK
}

// P1.2

func TestOrder(t *testing.T) {
	l := numbers()
	for i := 1; i < len(l); i++ {
		a, b := nums.Put(l[i-1]), nums.Put(l[i])
		if a >= b {
			t.Fatalf("%d: % x isn't below %d: % x", l[i-1], a, l[i], b)
		}
		// A text that begins with another one stands behind it, with nothing else between them.
		if strings.HasPrefix(b, a) {
			t.Fatalf("%d: % x begins %d: % x", l[i-1], a, l[i], b)
		}
	}
}

func TestNoPrefix(t *testing.T) {
	for _, x := range edges {
		for _, y := range edges {
			if x.n != y.n && strings.HasPrefix(nums.Put(x.n), nums.Put(y.n)) {
				t.Errorf("%d begins as %d", x.n, y.n)
			}
		}
	}
}

// P1.3

func TestJoin(t *testing.T) {
	long := strings.Repeat("x", 128)
	for _, x := range []struct {
		l    []string
		want string
	}{
		{nil, ""},
		{[]string{""}, "\x00"},
		{[]string{"", ""}, "\x00\x00"},
		{[]string{"a", "", "bc"}, "\x01a\x00\x02bc"},
		{[]string{"\x00\xff"}, "\x02\x00\xff"},
		{[]string{long[1:], "a"}, "\x7f" + long[1:] + "\x01a"},
		{[]string{long, "a"}, "\x80\x80" + long + "\x01a"},
	} {
		if s := nums.Join(x.l...); s != x.want {
			t.Errorf("Join(%q): %q, want %q", x.l, s, x.want)
		}
		if l, err := nums.Split(x.want); err != api.OK || !slices.Equal(l, x.l) {
			t.Errorf("Split(%q): %q %d, want %q", x.want, l, err, x.l)
		}
	}
	if s := nums.Join(); s != "" {
		t.Errorf("Join(): %q", s)
	}
}

func TestJoinKeepsItsArguments(t *testing.T) {
	l := []string{"a", "b", "spare"}
	nums.Join(l[:2]...)
	if !slices.Equal(l, []string{"a", "b", "spare"}) {
		t.Errorf("%q", l)
	}
}

// TestLongest joins the longest text that may be read again, and one that is longer.
func TestLongest(t *testing.T) {
	longest := strings.Repeat("y", api.MaxBody)
	joined := nums.Join("a", longest, "b")
	if joined != "\x01a"+"\xc4\x00\x00"+longest+"\x01b" {
		t.Error("Join of the longest text")
	}
	if l, err := nums.Split(joined); err != api.OK || !slices.Equal(l, []string{"a", longest, "b"}) {
		t.Errorf("Split: %d texts, %d", len(l), err)
	}
	if s, n, err := nums.Next(joined[2:]); s != longest || n != api.MaxBody+3 || err != api.OK {
		t.Errorf("Next: %d bytes, %d, %d", len(s), n, err)
	}
	longer := nums.Join(longest + "z")
	if longer != "\xc4\x00\x01"+longest+"z" {
		t.Error("Join of a longer text")
	}
	checkNextError(t, longer, api.ErrLong)
	if l, err := nums.Split("\x01a" + longer); len(l) != 0 || err != api.ErrLong {
		t.Errorf("Split: %d texts, %d", len(l), err)
	}
}

func TestNext(t *testing.T) {
	for _, x := range []struct {
		s, want string
		n       int
	}{
		{"\x00", "", 1},
		{"\x00\x01a", "", 1},
		{"\x01a", "a", 2},
		{"\x02abc", "ab", 3},
		{"\x02\xff\x00\xff", "\xff\x00", 3},
		{"\x80\x80" + strings.Repeat("x", 200), strings.Repeat("x", 128), 130},
	} {
		if s, n, err := nums.Next(x.s); s != x.want || n != x.n || err != api.OK {
			t.Errorf("Next(%q): %q %d %d, want %q %d", x.s, s, n, err, x.want, x.n)
		}
	}
}

func TestNextErrors(t *testing.T) {
	for s, want := range map[string]api.Errno{
		"":                             api.ErrShort,
		"\x01":                         api.ErrShort,
		"\x02a":                        api.ErrShort,
		"\x80":                         api.ErrShort,
		"\x80\x80a":                    api.ErrShort,
		nums.Put(api.MaxBody) + "a":    api.ErrShort,
		"\x80\x01a":                    api.ErrForm,
		"\xfc":                         api.ErrForm,
		"\xff\xff":                     api.ErrForm,
		"\xf9\x00\x00\x00\x00\x01":     api.ErrForm,
		nums.Put(api.MaxBody + 1):      api.ErrLong, // ahead of ErrShort
		nums.Put(api.MaxNumber):        api.ErrLong,
		nums.Put(api.MaxNumber) + "ab": api.ErrLong,
	} {
		checkNextError(t, s, want)
	}
}

func checkNextError(t *testing.T, s string, want api.Errno) {
	t.Helper()
	if text, n, err := nums.Next(s); text != "" || n != 0 || err != want {
		t.Errorf("Next: %d bytes, %d, %d, want nothing, 0, %d", len(text), n, err, want)
	}
}

// TestSplitErrors: the first error counts, and there are no texts beside it.
func TestSplitErrors(t *testing.T) {
	for s, want := range map[string]api.Errno{
		"\x02a":                               api.ErrShort,
		"\x01a\x02b":                          api.ErrShort,
		"\x01a\x80":                           api.ErrShort,
		"\x01a\x80\x00":                       api.ErrForm,
		"\x01a\xfcb":                          api.ErrForm,
		"\x01a\xfc\x02b":                      api.ErrForm,
		"\x00" + nums.Put(api.MaxBody+1) + "": api.ErrLong,
		nums.Put(api.MaxBody+1) + "\xfc":      api.ErrLong,
	} {
		if l, err := nums.Split(s); len(l) != 0 || err != want {
			t.Errorf("Split(%q): %q %d, want nothing, %d", s, l, err, want)
		}
	}
}

func TestSplitAnswersNewLists(t *testing.T) {
	s := nums.Join("a", "b")
	l, _ := nums.Split(s)
	l[0] = "changed"
	if m, err := nums.Split(s); err != api.OK || !slices.Equal(m, []string{"a", "b"}) {
		t.Errorf("%q %d", m, err)
	}
}

// TestSplitAnything: whatever Split takes, Join makes of it what it was (P1: and nothing panics).
func TestSplitAnything(t *testing.T) {
	r := rand.New(rand.NewSource(2))
	for range 200000 {
		b := make([]byte, r.Intn(12))
		for i := range b {
			b[i] = byte(r.Intn(256))
			if r.Intn(2) == 0 {
				b[i] &= 3
			}
		}
		s := string(b)
		if l, err := nums.Split(s); err == api.OK && nums.Join(l...) != s {
			t.Fatalf("%q is split into %q", s, l)
		}
		nums.Get(s)
		nums.Next(s)
	}
}
