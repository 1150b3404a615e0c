package pack_test

import (
	"fmt"
	"math/rand"
	"slices"
	"strconv"
	"strings"
	"testing"

	"stemma/api"
	"stemma/nums"
	"stemma/pack"
)

// P14.3

// ids returns those of texts, in ascending order, each once.
func ids(l []string) []string {
	var x []string
	for _, data := range l {
		x = append(x, idOf(data))
	}
	slices.Sort(x)
	return slices.Compact(x)
}

// wholeSize returns how many bytes the pack of texts has whose items are all whole.
func wholeSize(l []string) int {
	l = slices.Compact(slices.Sorted(slices.Values(l)))
	size := 2 + len(nums.Put(len(l))) + 32
	for _, data := range l {
		size += 33 + len(nums.Put(len(data))) + len(data)
	}
	return size
}

// made makes a pack, and says what must hold of each.
func made(t *testing.T, what string, l []string) string {
	t.Helper()
	given := slices.Clone(l)
	s, err := pack.Make(l)
	if err != api.OK {
		t.Fatalf("%s: Make: %d", what, err)
	}
	if !slices.Equal(l, given) {
		t.Errorf("%s: Make has changed its argument", what)
	}
	if n := wholeSize(l); len(s) > n || len(s) > api.MaxFile {
		t.Errorf("%s: the pack has %d bytes, and %d are enough", what, len(s), n)
	}
	p := open(t, s)
	if x, want := p.IDs(), ids(l); !slices.Equal(x, want) {
		t.Errorf("%s: IDs: %.8x, want %.8x", what, x, want)
	}
	for _, data := range l {
		if x, err := p.Get(idOf(data)); x != data || err != api.OK {
			t.Errorf("%s: Get of %s: %s, %d", what, short(data), short(x), err)
		}
		if n, ok := p.Depth(idOf(data)); n > api.MaxChain || !ok {
			t.Errorf("%s: Depth of %s: %d, %t", what, short(data), n, ok)
		}
	}
	return s
}

// same says that a pack is made of the texts in any order too, and with repetitions.
func same(t *testing.T, what string, l []string, s string) {
	t.Helper()
	r := rand.New(rand.NewSource(1))
	for range 3 {
		x := slices.Clone(l)
		for range r.Intn(5) {
			x = append(x, l[r.Intn(len(l))])
		}
		r.Shuffle(len(x), func(i, j int) { x[i], x[j] = x[j], x[i] })
		if again, err := pack.Make(x); again != s || err != api.OK {
			t.Errorf("%s: another pack of the same texts: %s, %d; the first is %s", what, short(again), err, short(s))
		}
	}
	slices.Reverse(l)
	if again, err := pack.Make(l); again != s || err != api.OK {
		t.Errorf("%s: another pack of the texts in reverse: %s, %d; the first is %s", what, short(again), err, short(s))
	}
}

// unmade says that Make must return ErrLong.
func unmade(t *testing.T, what string, l []string) {
	t.Helper()
	if s, err := pack.Make(l); s != "" || err != api.ErrLong {
		t.Errorf("%s: Make: %s, %d", what, short(s), err)
	}
}

// versions returns n texts, each of which differs from the one before in a few lines.
func versions(seed int64, n, lines int) []string {
	r := rand.New(rand.NewSource(seed))
	line := func() string { return fmt.Sprintf("%c%c %d\n", 'a'+r.Intn(26), 'a'+r.Intn(26), r.Intn(1000)) }
	var text []string
	for range lines {
		text = append(text, line())
	}
	var l []string
	for range n {
		at := r.Intn(len(text) + 1)
		switch r.Intn(3) {
		case 0:
			text = slices.Insert(text, at, line())
		case 1:
			text = slices.Delete(text, max(0, at-1), at)
		case 2:
			text = append(text, line())
		}
		l = append(l, strings.Join(text, ""))
	}
	return l
}

func TestMakeOfNone(t *testing.T) {
	want := "\x50\x4b\x00" + idOf("\x50\x4b\x00")
	if s := made(t, "no texts", nil); s != want || len(s) != 35 {
		t.Errorf("%q, want %q", s, want)
	}
	if s := made(t, "no texts", []string{}); s != want {
		t.Errorf("%q, want %q", s, want)
	}
}

func TestMake(t *testing.T) {
	for what, l := range map[string][]string{
		"one":                  {"abc"},
		"one of no bytes":      {""},
		"one thrice":           {"abc", "abc", "abc"},
		"two":                  {"abc", "abd"},
		"some":                 {"", "a", "b", "ab", "\x00", "\xff", "PK", noise(1, 500), noise(1, 501), noise(2, 500)},
		"of one length":        {noise(1, 100), noise(2, 100), noise(3, 100), noise(4, 100)},
		"of one beginning":     {noise(1, 300) + "a", noise(1, 300) + "b", noise(1, 300) + "c", noise(1, 200)},
		"of one byte":          {strings.Repeat("a", 100), strings.Repeat("a", 101), strings.Repeat("a", 99), strings.Repeat("a", 10000)},
		"one inside the other": {noise(1, 1000), noise(1, 1000)[300:600], noise(1, 1000)[100:200]},
		"its own pack":         {packed(all("abc")), "abc"},
		"digits":               strings.Split("0123456789", ""),
		"versions":             versions(1, 40, 60),
		"versions of two":      append(versions(2, 20, 60), versions(3, 20, 60)...),
	} {
		same(t, what, l, made(t, what, l))
	}
}

func TestMakeOfRandom(t *testing.T) {
	for seed := range int64(300) {
		r := rand.New(rand.NewSource(seed))
		var l []string
		for range r.Intn(4) {
			l = append(l, versions(r.Int63(), r.Intn(20), r.Intn(30))...)
		}
		for range r.Intn(6) {
			l = append(l, noise(r.Int63n(3), r.Intn(200)))
		}
		if len(l) == 0 {
			continue
		}
		what := "seed " + strconv.Itoa(int(seed))
		same(t, what, l, made(t, what, l))
	}
}

// Texts that are all whole in the least pack, about as many bytes as a delta saves.
func TestMakeOfSmall(t *testing.T) {
	for n := range 130 {
		made(t, "two of "+strconv.Itoa(n), []string{noise(1, n) + "a", noise(1, n) + "b"})
	}
}

// A chain is not longer than MaxChain, however many versions there are, and versions take little all the same.
func TestMakeOfVersions(t *testing.T) {
	for _, n := range []int{8, 9, 10, 11, 30, 200} {
		l := versions(5, n, 1000)
		s := made(t, "versions", l)
		if most := len(l[0]) + 2000 + 400*n; len(s) > most {
			t.Errorf("%d versions of %d bytes: a pack of %d", n, len(l[0]), len(s))
		}
		deltas := 0
		for _, id := range open(t, s).IDs() {
			if depth, _ := open(t, s).Depth(id); depth > 0 {
				deltas++
			}
		}
		if deltas == 0 {
			t.Error("no deltas")
		}
	}
}

func TestMakeMostTexts(t *testing.T) {
	var l []string
	for i := range api.MaxItems {
		l = append(l, strconv.Itoa(i))
	}
	s := made(t, "the most", l)
	if again := made(t, "the most, and repetitions", append(l, l[:100]...)); again != s {
		t.Error("repetitions make another pack")
	}
	unmade(t, "a text more", append(l, "x"))
	unmade(t, "many texts more", append(slices.Repeat([]string{"x"}, 10), l...))
}

func TestMakeLongestTexts(t *testing.T) {
	long := noise(1, maxText)
	made(t, "the longest", []string{long})
	made(t, "the longest", []string{long, long[1:], long[:maxText/2], "x" + long[1:], noise(2, maxText)})
	made(t, "the longest of one byte", []string{strings.Repeat("a", maxText), strings.Repeat("b", maxText)})
	for _, x := range []string{"", "abc", long} {
		unmade(t, "too long", []string{x, long + "x"})
		unmade(t, "too long", []string{long + "x", x})
	}
	unmade(t, "too long", []string{strings.Repeat("a", maxText+1)})
	unmade(t, "much too long", []string{strings.Repeat("a", 4*maxText)})
}

// A pack may have MaxFile bytes. What is noise takes as many as the whole items do.
func TestMakeLongestPack(t *testing.T) {
	l := []string{noise(1, maxText), noise(2, maxText), noise(3, maxText), noise(4, 200000)}
	l[3] = noise(4, 200000+api.MaxFile-wholeSize(l))
	if s := made(t, "the longest pack", l); len(s) != api.MaxFile {
		t.Errorf("%d bytes", len(s))
	}
	more := slices.Clone(l)
	more[3] += "x"
	unmade(t, "a byte more", more)
	unmade(t, "a text more", append(slices.Clone(l), ""))
	unmade(t, "texts more", append(slices.Clone(l), noise(5, maxText), noise(6, maxText)))
	// Many small ones.
	var small []string
	for i := range 4000 {
		small = append(small, noise(int64(10+i), 300))
	}
	unmade(t, "many small texts", small)
	made(t, "fewer small texts", small[:api.MaxFile/340])
}

// Texts that do not fit as whole items fit as deltas.
func TestMakeOfMuch(t *testing.T) {
	text := noise(1, maxText-1000)
	var l []string
	for i := range 60 {
		at := i * 3000
		l = append(l, text[:at]+strconv.Itoa(i)+text[at:])
	}
	if s := made(t, "much", l); len(s) > maxText+60*200 {
		t.Errorf("%d bytes", len(s))
	}
}
