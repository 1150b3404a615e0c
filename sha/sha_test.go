package sha_test

import (
	"crypto/sha256"
	"encoding/hex"
	"math/rand"
	"slices"
	"strings"
	"testing"

	"stemma/sha"
)

// known are digests that are published for SHA-256.
var known = []struct{ text, want string }{
	{"", "e3b0c44298fc1c149afbf4c8996fb92427ae41e4649b934ca495991b7852b855"},
	{"abc", "ba7816bf8f01cfea414140de5dae2223b00361a396177a9cb410ff61f20015ad"},
	{"abcdbcdecdefdefgefghfghighijhijkijkljklmklmnlmnomnopnopq", "248d6a61d20638b8e5c026930c3e6039a33ce45964ff2167f6ecedd419db06c1"},
	{"abcdefghbcdefghicdefghijdefghijkefghijklfghijklmghijklmnhijklmnoijklmnopjklmnopqklmnopqrlmnopqrsmnopqrstnopqrstu", "cf5b16a778af8380036ce59e7b0492370b249b11e8f07a51afac45037afee9d1"},
	{strings.Repeat("a", 1000000), "cdc76e5c9914fb9281a1c7e284d73e67f1809a48a497200e046d39ccc7112cd0"},
}

// sample returns n bytes that repeat in no short period.
func sample(n int) string {
	b := make([]byte, n)
	r := rand.New(rand.NewSource(int64(n)))
	for i := range b {
		b[i] = byte(r.Intn(256))
	}
	return string(b)
}

func want(s string) string {
	d := sha256.Sum256([]byte(s))
	return string(d[:])
}

// P2.1

func TestSumKnown(t *testing.T) {
	for _, x := range known {
		if s := sha.Hex(sha.Sum(x.text)); s != x.want {
			t.Errorf("%.20q: %s, want %s", x.text, s, x.want)
		}
	}
}

// TestSumLengths: each place of the end within a block.
func TestSumLengths(t *testing.T) {
	for n := range 400 {
		s := sample(n)
		if sha.Sum(s) != want(s) {
			t.Errorf("%d bytes", n)
		}
	}
	for _, n := range []int{1 << 13, 1<<16 - 9, 1<<18 + 1, 1<<21 + 7} {
		s := sample(n)
		if sha.Sum(s) != want(s) {
			t.Errorf("%d bytes", n)
		}
	}
}

// TestSumLong: the number of bits takes more than 32 bits.
func TestSumLong(t *testing.T) {
	piece := sample(1 << 20)
	parts := slices.Repeat([]string{piece}, 1<<9)
	parts = append(parts, "end")
	h := sha256.New()
	for _, s := range parts {
		h.Write([]byte(s))
	}
	if sha.Sum(parts...) != string(h.Sum(nil)) {
		t.Error("2^29 bytes and more")
	}
}

func TestSumParts(t *testing.T) {
	s := sample(200)
	for i := range len(s) + 1 {
		for _, j := range []int{i, (i + len(s)) / 2, len(s)} {
			if sha.Sum(s[:i], s[i:j], "", s[j:]) != want(s) {
				t.Errorf("parts that end at %d, %d", i, j)
			}
		}
	}
	if sha.Sum() != want("") || sha.Sum("", "") != want("") {
		t.Error("no bytes")
	}
	if sha.Sum("ab", "c") != sha.Sum("a", "bc") {
		t.Error("the borders of parts count")
	}
	if sha.Sum(strings.Split(s, "")...) != sha.Sum(strings.Split(s, "")...) {
		t.Error("another digest the second time")
	}
}

func TestSumKeepsItsArguments(t *testing.T) {
	l := []string{"a", "b", "spare"}
	sha.Sum(l[:2]...)
	if !slices.Equal(l, []string{"a", "b", "spare"}) {
		t.Errorf("%q", l)
	}
}

func TestHex(t *testing.T) {
	if s := sha.Hex("\x00\x01\x0a\x10\x7f\x80\x9a\xa9\xbc\xde\xf0\xff" + strings.Repeat("\x5e", 20)); s != "00010a107f809aa9bcdef0ff"+strings.Repeat("5e", 20) {
		t.Error(s)
	}
	for i := range 256 {
		d := strings.Repeat(string([]byte{byte(i), byte(255 - i)}), 16)
		if s := sha.Hex(d); s != hex.EncodeToString([]byte(d)) {
			t.Errorf("% x: %s", d, s)
		}
	}
	for n := range 100 {
		if n != 32 && sha.Hex(sample(n)) != "" {
			t.Errorf("%d bytes have digits", n)
		}
	}
}

func TestParse(t *testing.T) {
	for i := range 300 {
		d := sample(i + 32)[:32]
		if p, ok := sha.Parse(hex.EncodeToString([]byte(d))); p != d || !ok {
			t.Errorf("% x: % x %t", d, p, ok)
		}
	}
	for i := range 256 {
		d := strings.Repeat(string([]byte{byte(i), byte(255 - i)}), 16)
		if p, ok := sha.Parse(sha.Hex(d)); p != d || !ok {
			t.Errorf("% x: % x %t", d, p, ok)
		}
	}
}

func TestParseWrong(t *testing.T) {
	good := sha.Hex(sha.Sum("abc"))
	for n := range 200 {
		if n != 64 {
			checkNotParsed(t, strings.Repeat("a", n))
		}
	}
	checkNotParsed(t, good[:63])
	checkNotParsed(t, good[:62])
	checkNotParsed(t, good+"0")
	checkNotParsed(t, good+"\n")
	checkNotParsed(t, strings.ToUpper(good))
	checkNotParsed(t, strings.Repeat("A", 64))
	checkNotParsed(t, "0x"+good[2:])
	// Each byte that isn't a digit, at each place.
	for c := range 256 {
		if c < 0x80 && strings.Contains("0123456789abcdef", string(rune(c))) {
			continue
		}
		for i := range 64 {
			checkNotParsed(t, good[:i]+string([]byte{byte(c)})+good[i+1:])
		}
	}
}

func checkNotParsed(t *testing.T, s string) {
	t.Helper()
	if p, ok := sha.Parse(s); p != "" || ok {
		t.Errorf("Parse(%q): % x %t", s, p, ok)
	}
}

// P2.2

func TestHasher(t *testing.T) {
	s := sample(300)
	for step := 1; step <= 130; step++ {
		var h sha.Hasher
		for i := 0; i < len(s); i += step {
			h.Put(s[i:min(i+step, len(s))])
		}
		if h.Sum() != want(s) {
			t.Errorf("pieces of %d bytes", step)
		}
	}
}

func TestHasherWithoutBytes(t *testing.T) {
	var h sha.Hasher
	if h.Sum() != want("") {
		t.Error("the zero value")
	}
	h.Put("")
	if h.Sum() != want("") {
		t.Error("behind nothing put")
	}
	h.Put("abc")
	h.Put("")
	if h.Sum() != want("abc") {
		t.Error("with nothing put behind it")
	}
}

// TestHasherSumChangesNothing: Sum may be asked behind each byte, and more than once.
func TestHasherSumChangesNothing(t *testing.T) {
	var h sha.Hasher
	s := sample(260)
	for i := range len(s) + 1 {
		for range 2 {
			if h.Sum() != want(s[:i]) {
				t.Fatalf("%d bytes", i)
			}
		}
		if i < len(s) {
			h.Put(s[i : i+1])
		}
	}
}

// TestHasherCopy: what is put into a Hasher doesn't get into its copy, nor the other way.
func TestHasherCopy(t *testing.T) {
	s, more, other := sample(200), sample(150), sample(151)
	for i := range len(s) + 1 {
		var h sha.Hasher
		h.Put(s[:i])
		x := h
		h.Put(more)
		if x.Sum() != want(s[:i]) {
			t.Errorf("%d bytes: the copy has changed", i)
		}
		x.Put(other)
		if h.Sum() != want(s[:i]+more) {
			t.Errorf("%d bytes: the original has changed", i)
		}
		if x.Sum() != want(s[:i]+other) {
			t.Errorf("%d bytes: the copy doesn't go on", i)
		}
	}
}

func TestHashersAreIndependent(t *testing.T) {
	var l [3]sha.Hasher
	s := [3]string{sample(100), sample(170), sample(129)}
	for i := range 200 {
		for j := range l {
			if i < len(s[j]) {
				l[j].Put(s[j][i : i+1])
			}
		}
		sha.Sum(s[0][:i%100])
	}
	for j := range l {
		if l[j].Sum() != want(s[j]) {
			t.Errorf("Hasher %d", j)
		}
	}
}

func TestNilHasher(t *testing.T) {
	var h *sha.Hasher
	h.Put("abc")
	h.Put("")
	if s := h.Sum(); s != "" {
		t.Errorf("%q", s)
	}
	var zero sha.Hasher
	if zero.Sum() != want("") {
		t.Error("what was put into no Hasher is in another one")
	}
}

func BenchmarkSum(b *testing.B) {
	s := sample(1 << 20)
	b.SetBytes(int64(len(s)))
	for b.Loop() {
		sha.Sum(s)
	}
}
