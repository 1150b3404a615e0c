package crc_test

import (
	"hash/crc32"
	"math/rand"
	"strings"
	"testing"

	"stemma/api"
	"stemma/crc"
	"stemma/nums"
)

// random returns n bytes, the same for each seed.
func random(seed int64, n int) string {
	b := make([]byte, n)
	rand.New(rand.NewSource(seed)).Read(b)
	return string(b)
}

// seal returns s and its checksum behind it.
func seal(s string) string {
	n := crc32.ChecksumIEEE([]byte(s))
	return s + string([]byte{byte(n), byte(n >> 8), byte(n >> 16), byte(n >> 24)})
}

// next is what Next answers.
type next struct {
	kind byte
	body string
	n    int
	err  api.Errno
}

func read(s string) next {
	kind, body, n, err := crc.Next(s)
	return next{kind, body, n, err}
}

// P3.1

func TestSum(t *testing.T) {
	for s, want := range map[string]uint32{
		"":                 0,
		"123456789":        0xcbf43926,
		"a":                0xe8b7be43,
		"abc":              0x352441c2,
		"\x00":             0xd202ef8d,
		"\x00\x00\x00\x00": 0x2144df1c,
		"\xff":             0xff000000,
		"\xff\xff\xff\xff": 0xffffffff,
		"The quick brown fox jumps over the lazy dog": 0x414fa339,
	} {
		if n := crc.Sum(s); n != want {
			t.Errorf("Sum(%q): %08x, want %08x", s, n, want)
		}
	}
}

func TestSumOfEachByteAndLength(t *testing.T) {
	for i := range 256 {
		for j := range 256 {
			s := string([]byte{byte(i), byte(j)})
			if n := crc.Sum(s); n != crc32.ChecksumIEEE([]byte(s)) {
				t.Fatalf("Sum(% x): %08x", s, n)
			}
		}
	}
	for n := range 1200 {
		s := random(int64(n), n)
		if x := crc.Sum(s); x != crc32.ChecksumIEEE([]byte(s)) {
			t.Fatalf("Sum of %d bytes: %08x", n, x)
		}
	}
	s := random(1, 1<<22+3)
	if x := crc.Sum(s); x != crc32.ChecksumIEEE([]byte(s)) {
		t.Errorf("Sum of %d bytes: %08x", len(s), x)
	}
}

// P3.2

func TestFrame(t *testing.T) {
	if s := crc.Frame(7, ""); s != "\x07\x00\x38\x84\x98\x0e" {
		t.Errorf("the document's example: % x", s)
	}
	for kind := range 256 {
		for _, body := range []string{"", "a", "\x00", "many words", random(1, 127), random(2, 128), random(3, 20000)} {
			want := seal(string([]byte{byte(kind)}) + nums.Put(len(body)) + body)
			if s := crc.Frame(byte(kind), body); s != want {
				t.Fatalf("Frame(%d, %d bytes): %d bytes, want %d", kind, len(body), len(s), len(want))
			}
		}
	}
}

func TestFrameOfTheLongestBody(t *testing.T) {
	body := random(4, api.MaxBody)
	if s := crc.Frame(1, body); s != seal("\x01"+nums.Put(len(body))+body) {
		t.Errorf("%d bytes: a frame of %d", len(body), len(s))
	}
	for _, n := range []int{api.MaxBody + 1, api.MaxBody + 2, 1 << 21} {
		if s := crc.Frame(1, strings.Repeat("x", n)); s != "" {
			t.Errorf("%d bytes: a frame of %d", n, len(s))
		}
	}
}

// P3.3

func TestNext(t *testing.T) {
	for _, kind := range []byte{0, 1, 7, 127, 128, 255} {
		for _, n := range []int{0, 1, 2, 127, 128, 129, 16383, 16384, api.MaxBody - 1, api.MaxBody} {
			body := random(int64(n), n)
			s := crc.Frame(kind, body)
			for _, tail := range []string{"", "\x00", "more", s} {
				if x := read(s + tail); x != (next{kind, body, len(s), api.OK}) {
					t.Errorf("kind %d, %d bytes, then %d: %d, %d bytes, %d, %d", kind, n, len(tail), x.kind, len(x.body), x.n, x.err)
				}
			}
		}
	}
}

func TestNextOfNothing(t *testing.T) {
	if x := read(""); x != (next{err: api.ErrNone}) {
		t.Errorf("%v", x)
	}
}

func TestNextOfWhatIsCutShort(t *testing.T) {
	for _, body := range []string{"", "a", "some words", random(1, 127), random(1, 128), random(2, 20000)} {
		s := crc.Frame(3, body)
		for n := 1; n < len(s); n++ {
			if x := read(s[:n]); x != (next{err: api.ErrShort}) {
				t.Fatalf("%d of %d bytes: %d, %d bytes, %d, %d", n, len(s), x.kind, len(x.body), x.n, x.err)
			}
		}
	}
}

func TestNextOfWrongFrames(t *testing.T) {
	long := strings.Repeat("x", api.MaxBody+1)
	for _, x := range []struct {
		what, s string
		want    api.Errno
	}{
		{"no length", "\x07", api.ErrShort},
		{"half a length", "\x07\x80", api.ErrShort},
		{"more of a length", "\x07\xf8\x01\x02\x03\x04", api.ErrShort},
		{"six bits", "\x07\xfc", api.ErrForm},
		{"eight bits", "\x07\xff", api.ErrForm},
		{"six bits, sealed", seal("\x07\xfc\x00\x00\x00\x00\x00\x00"), api.ErrForm},
		{"a length of more bytes than it needs", "\x07\x80\x00", api.ErrForm},
		{"the same, sealed", seal("\x07\x80\x00"), api.ErrForm},
		{"the same, with a body", seal("\x07\x80\x01a"), api.ErrForm},
		{"above MaxNumber", "\x07\xf9\x00\x00\x00\x00\x01", api.ErrForm},
		{"MaxNumber", "\x07\xf9\x00\x00\x00\x00\x00", api.ErrLong},
		{"too long, without a body", "\x07" + nums.Put(api.MaxBody+1), api.ErrLong},
		{"too long, with half its body", "\x07" + nums.Put(api.MaxBody+1) + "abc", api.ErrLong},
		{"too long, whole", seal("\x07" + nums.Put(api.MaxBody+1) + long), api.ErrLong},
		{"the longest, without a body", "\x07" + nums.Put(api.MaxBody), api.ErrShort},
		{"the longest, without a checksum", "\x07" + nums.Put(api.MaxBody) + long[1:], api.ErrShort},
		{"the longest, with three bytes of it", seal("\x07" + nums.Put(api.MaxBody) + long[1:])[:api.MaxBody+4+3], api.ErrShort},
		{"the longest, with a wrong one", "\x07" + nums.Put(api.MaxBody) + long[1:] + "abcd", api.ErrSum},
		{"a wrong checksum", "\x07\x00\x38\x84\x98\x0f", api.ErrSum},
		{"its bytes in the other order", "\x07\x00\x0e\x98\x84\x38", api.ErrSum},
		{"of the body alone", "\x07\x03abc\xc2\x41\x24\x35", api.ErrSum},
		{"noughts", "\x00\x00\x00\x00\x00\x00", api.ErrSum},
	} {
		if got := read(x.s); got != (next{err: x.want}) {
			t.Errorf("%s: %d, %d bytes, %d, %d; want %d", x.what, got.kind, len(got.body), got.n, got.err, x.want)
		}
	}
}

func TestWhole(t *testing.T) {
	a, b, c := crc.Frame(1, "a"), crc.Frame(2, ""), crc.Frame(3, random(1, 300))
	damaged := c[:9] + "\x00" + c[10:]
	for _, x := range []struct {
		what, s     string
		size, count int
	}{
		{"nothing", "", 0, 0},
		{"one", a, len(a), 1},
		{"three", a + b + c, len(a + b + c), 3},
		{"the same twice", b + b, 2 * len(b), 2},
		{"half of one", c[:100], 0, 0},
		{"two, half of one", a + b + c[:100], len(a + b), 2},
		{"two, a damaged one, one more", a + b + damaged + c, len(a + b), 2},
		{"two, noughts", a + b + strings.Repeat("\x00", 100), len(a + b), 2},
		{"one, a wrong length, one more", a + seal("\x07\x80\x00") + b, len(a), 1},
		{"one, a long one, one more", a + seal("\x07"+nums.Put(api.MaxBody+1)) + b, len(a), 1},
		{"no frame", "abc", 0, 0},
	} {
		if size, count := crc.Whole(x.s); size != x.size || count != x.count {
			t.Errorf("%s: %d, %d; want %d, %d", x.what, size, count, x.size, x.count)
		}
	}
}

func TestWholeOfMany(t *testing.T) {
	var b strings.Builder
	for range 200000 {
		b.WriteString(crc.Frame(1, "ab"))
	}
	if size, count := crc.Whole(b.String()); size != b.Len() || count != 200000 {
		t.Errorf("%d, %d", size, count)
	}
}

// P3.4

func TestFramesThatAreTruncated(t *testing.T) {
	frames := []string{
		crc.Frame(0, ""), crc.Frame(9, "words"), crc.Frame(9, ""), crc.Frame(255, random(3, 200)), crc.Frame(1, crc.Frame(2, "x")),
	}
	s := strings.Join(frames, "")
	for n := range len(s) + 1 {
		size, count := 0, 0
		for count < len(frames) && size+len(frames[count]) <= n {
			size += len(frames[count])
			count++
		}
		if x, y := crc.Whole(s[:n]); x != size || y != count {
			t.Fatalf("%d of %d bytes: %d, %d; want %d, %d", n, len(s), x, y, size, count)
		}
	}
}

func TestFramesThatWereChanged(t *testing.T) {
	r := rand.New(rand.NewSource(1))
	for _, body := range []string{"", "a", "abcd", "some words", random(5, 200)} {
		s := crc.Frame(7, body)
		from := 1 + len(nums.Put(len(body)))
		for at := from; at < len(s); at++ {
			for n := 1; n <= min(4, len(s)-at); n++ {
				for range 40 {
					b := []byte(s)
					r.Read(b[at : at+n])
					if string(b) == s {
						continue
					}
					if x := read(string(b)); x != (next{err: api.ErrSum}) {
						t.Fatalf("%d bytes of %d at %d: %v", n, len(s), at, x)
					}
				}
			}
		}
	}
}

func TestEachByteThatWasChanged(t *testing.T) {
	s := crc.Frame(7, "some words")
	for at := 2; at < len(s); at++ {
		for c := range 256 {
			x := s[:at] + string([]byte{byte(c)}) + s[at+1:]
			if _, _, _, err := crc.Next(x); (err == api.OK) != (x == s) {
				t.Fatalf("byte %d as %d: %d", at, c, err)
			}
		}
	}
}
