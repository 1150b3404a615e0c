package delta_test

import (
	"math/rand"
	"slices"
	"strconv"
	"strings"
	"testing"

	"stemma/api"
	"stemma/delta"
	"stemma/nums"
)

// P13.3

// made makes a delta, and says what must hold of each.
func made(t *testing.T, what, base, target string) string {
	t.Helper()
	d := delta.Make(base, target)
	if s, err := delta.Apply(base, d); s != target || err != api.OK {
		t.Errorf("%s: the delta from %s to %s makes %s, %d", what, short(base), short(target), short(s), err)
	}
	if x, y, err := delta.Sizes(d); x != len(base) || y != len(target) || err != api.OK {
		t.Errorf("%s: Sizes: %d, %d, %d; want %d, %d", what, x, y, err, len(base), len(target))
	}
	if n := len(whole(base, target)); len(d) > n {
		t.Errorf("%s: the delta from %s to %s has %d bytes, and %d are enough", what, short(base), short(target), len(d), n)
	}
	if delta.Make(base, target) != d {
		t.Errorf("%s: Make of the same texts differs", what)
	}
	return d
}

// parted says that the delta to a part of a base must be a small one.
func parted(t *testing.T, what, base string, at, n int) {
	t.Helper()
	if d := made(t, what, base, base[at:at+n]); len(d) > 32 {
		t.Errorf("%s: the delta to the %d bytes from %d on of %s has %d", what, n, at, short(base), len(d))
	}
}

// bases are texts of other kinds, by what they are.
func bases() map[string]string {
	return map[string]string{
		"noise":            noise(2, 5000),
		"a list":           strings.Join(list(3, 800), ""),
		"one byte":         strings.Repeat("\x00", 5000),
		"a period of 3":    strings.Repeat("abc", 1500),
		"a period of 16":   strings.Repeat("0123456789abcdef", 300),
		"a period of 17":   strings.Repeat("0123456789abcdefg", 300),
		"two halves":       strings.Repeat(noise(4, 2000), 2),
		"nearly a period":  strings.Repeat(strings.Repeat("x", 100)+"y", 50),
		"two values":       strings.Map(func(c rune) rune { return 'a' + c&1 }, strings.Repeat("x", 70)+strings.Join(list(5, 500), "")),
		"64 bytes":         noise(6, 64),
		"with a long tail": noise(7, 100) + strings.Repeat("\xff", 4000),
	}
}

func TestMakeOfSmall(t *testing.T) {
	texts := []string{"", "\x00", "a", "b", "ab", "abcd", "abxcd", "aaaa", "\x00\x01\x00", "abcdabcd", "abcdefghijklmnop", "abcdefghijklmnopq"}
	for _, base := range texts {
		for _, target := range texts {
			d := made(t, "small", base, target)
			if target == "" && d != nums.Put(len(base))+"\x00" {
				t.Errorf("from %q to nothing: %q", base, d)
			}
		}
	}
	// The example's delta takes more than all of the target as new bytes.
	if d := delta.Make("abcd", "abxcd"); len(d) > 9 {
		t.Errorf("%q", d)
	}
}

func TestMakeOfParts(t *testing.T) {
	r := rand.New(rand.NewSource(1))
	for what, base := range bases() {
		parted(t, what, base, 0, len(base))
		for _, n := range []int{64, 65, 100, 127, 128, 1000, 4000, len(base) - 1} {
			if n > len(base) || n < 64 {
				continue
			}
			parted(t, what, base, 0, n)
			parted(t, what, base, len(base)-n, n)
			for range 30 {
				parted(t, what, base, r.Intn(len(base)-n+1), n)
			}
		}
	}
}

func TestMakeOfSmallParts(t *testing.T) {
	for what, base := range bases() {
		for n := range 64 {
			for _, at := range []int{0, 1, 15, 64 - n} {
				if at+n <= len(base) {
					made(t, what, base, base[at:at+n])
				}
			}
		}
	}
}

// To copy a few bytes that are far away takes more than to have them as new ones.
func TestMakeOfFarParts(t *testing.T) {
	for _, n := range []int{100, 127, 128, 1000, 16383, 16384, 100000} {
		base := strings.Repeat("a", n) + "bcdefghijk"
		for k := range 11 {
			made(t, "far", base, base[n:n+k])
			made(t, "far", base, base[n:n+k]+"x")
		}
	}
}

func TestMakeLimits(t *testing.T) {
	full := noise(8, maxText)
	one := strings.Repeat("a", maxText)
	for _, base := range []string{full, one} {
		parted(t, "the longest base", base, 0, maxText)
		parted(t, "the longest base", base, maxText-64, 64)
		parted(t, "the longest base", base, 1, maxText-1)
		parted(t, "the longest base", base, maxText/2, maxText/2)
		made(t, "the longest base", base, "")
		made(t, "the longest target", "", base)
	}
	made(t, "the longest texts", full, one)
	made(t, "the longest texts", full, full[1:]+"x")
	made(t, "the longest texts", one, one[1:]+"x")
	made(t, "the longest texts", one, "x"+one[1:])
	for _, x := range [][2]string{
		{full + "x", ""}, {"", full + "x"}, {full + "x", full + "x"}, {full + "x", full}, {full, full + "x"},
		{full + full, full[:64]}, {full[:64], full + full},
	} {
		if d := delta.Make(x[0], x[1]); d != "" {
			t.Errorf("from %d to %d bytes: a delta of %d", len(x[0]), len(x[1]), len(d))
		}
	}
}

// change returns lines with some of them changed, left out, moved or new.
func change(r *rand.Rand, l []string) []string {
	l = slices.Clone(l)
	for range r.Intn(6) {
		i, j := r.Intn(len(l)+1), r.Intn(len(l)+1)
		i, j = min(i, j), max(i, j)
		switch r.Intn(4) {
		case 0:
			l = slices.Insert(l, i, "new "+strconv.Itoa(r.Intn(1000))+"\n")
		case 1:
			l = slices.Delete(l, i, min(j, i+3))
		case 2:
			l = slices.Concat(l[j:], l[i:j], l[:i])
		case 3:
			if i < j {
				l[i] += "x"
			}
		}
	}
	return l
}

func TestMakeOfRandom(t *testing.T) {
	for seed := range int64(3000) {
		r := rand.New(rand.NewSource(seed))
		l := list(seed, r.Intn(60))
		base, target := strings.Join(l, ""), strings.Join(change(r, l), "")
		what := "seed " + strconv.Itoa(int(seed))
		made(t, what, base, target)
		made(t, what, target, base)
		made(t, what, noise(seed, r.Intn(100))+base, target+noise(seed+1, r.Intn(100)))
		made(t, what, strings.ReplaceAll(base, "\n", ""), target)
	}
}

// Texts of few values have many equal pieces.
func TestMakeOfFewValues(t *testing.T) {
	text := func(r *rand.Rand) string {
		b := make([]byte, r.Intn(400))
		for i := range b {
			if b[i] = 'a'; r.Intn(20) == 0 {
				b[i] = 'b'
			}
		}
		return string(b)
	}
	for seed := range int64(5000) {
		r := rand.New(rand.NewSource(seed))
		made(t, "seed "+strconv.Itoa(int(seed)), text(r), text(r))
	}
}

// A version of which little has changed takes little.
func TestMakeOfVersions(t *testing.T) {
	l := list(9, 4000)
	base := strings.Join(l, "")
	for what, x := range map[string][]string{
		"a new first line":  slices.Concat([]string{"new 1\n"}, l),
		"a new last line":   slices.Concat(l, []string{"new 1\n"}),
		"a new line inside": slices.Insert(slices.Clone(l), 1234, "new 1\n"),
		"a line less":       slices.Delete(slices.Clone(l), 1234, 1235),
		"halves swapped":    slices.Concat(l[2000:], l[:2000]),
	} {
		if d := made(t, what, base, strings.Join(x, "")); len(d) > 64 {
			t.Errorf("%s: %d bytes", what, len(d))
		}
	}
}
