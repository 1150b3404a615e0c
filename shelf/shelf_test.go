package shelf_test

import (
	"slices"
	"strings"
	"testing"

	"stemma/api"
	"stemma/file"
	"stemma/shelf"
)

// P15.1

func TestOpenRefuses(t *testing.T) {
	if s, err := shelf.Open(nil); s != nil || err != api.ErrArg {
		t.Errorf("Open of no files: %v, %d", s, err)
	}
	for _, temporary := range []bool{true, false} {
		_, f, d := fresh(t, 30, 5)
		if temporary {
			write(t, f, "tmp", "x")
		}
		write(t, f, named(1), "no pack")
		off(d)
		if s, err := shelf.Open(f); s != nil || err != api.ErrPower {
			t.Errorf("Open without power: %v, %d", s, err)
		}
	}
}

func TestOpenRefusesPacks(t *testing.T) {
	good := packOf(t, "abc", "def")
	for what, text := range map[string]string{
		"nothing":       "",
		"a byte less":   good[:len(good)-1],
		"a byte more":   good + "\x00",
		"another mark":  "X" + good[1:],
		"another sum":   good[:len(good)-1] + string([]byte{good[len(good)-1] ^ 1}),
		"another item":  strings.Replace(good, "abc", "abd", 1),
		"an item less":  onePack(idOf("x"), "x")[:3] + idOf("PK\x01"),
		"not a pack":    "abc",
		"a loose text":  text(1, 600),
		"too many":      "PK\xff" + idOf("PK\xff"),
		"an open chain": "PK\x02" + idOf("x"),
	} {
		_, f, _ := fresh(t, 40, 6)
		write(t, f, named(2), good)
		write(t, f, named(1), text)
		if s, err := shelf.Open(f); s != nil || err != api.ErrCorrupt {
			t.Errorf("%s: Open: %v, %d", what, s, err)
		}
		ok(t, "Rename", f.Rename(named(1), named(3)))
		if s, err := shelf.Open(f); s != nil || err != api.ErrCorrupt {
			t.Errorf("%s, the last: Open: %v, %d", what, s, err)
		}
	}
}

// A spoiled sector of a pack shows when the shelf is opened.
func TestOpenSpoiled(t *testing.T) {
	s, f, d := fresh(t, 40, 6)
	stored(t, s, text(1, 700), text(2, 700), "abc")
	ok(t, "Repack", s.Repack(s.IDs()))
	sectors := content(t, d)
	refused := 0
	for i, old := range sectors {
		b := []byte(old)
		b[100] ^= 1
		ok(t, "Spoil", d.Spoil(i, string(b)))
		if f, _ = file.Mount(d); f != nil {
			s, err := shelf.Open(f)
			switch err {
			case api.ErrCorrupt:
				refused++
			case api.OK:
				holds(t, "spoiled elsewhere", s, 0, 1, text(1, 700), text(2, 700), "abc")
			default:
				t.Errorf("Open: %d", err)
			}
		}
		ok(t, "Spoil", d.Spoil(i, old))
	}
	if refused < 2 {
		t.Errorf("refused %d times", refused)
	}
}

// The files of others stay as they are, whatever is in them.
func TestOpenAmongOthers(t *testing.T) {
	_, f, d := fresh(t, 60, 30)
	digits := named(1)[1:]
	others := []string{
		"p", "p" + digits[1:], "p" + digits + "0", "P" + digits, digits, "pp" + digits, "q" + digits, "p" + digits[1:] + "g",
		"p" + digits[1:] + "A", "p" + strings.Repeat("F", 64), "o" + digits[1:], "refs", "tmp2", "ptmp",
	}
	for _, name := range others {
		write(t, f, name, "x")
	}
	var s *shelf.Shelf
	unchanged(t, "Open", d, func() { s = open(t, f) })
	holds(t, "the files of others", s, 0, 0)
	stored(t, s, "abc", "def")
	ok(t, "Repack", s.Repack(idsOf("abc")))
	holds(t, "repacked", s, 0, 1, "abc")
	ok(t, "Repack", s.Repack(nil))
	holds(t, "emptied", s, 0, 0)
	slices.Sort(others)
	if l := f.Names(); !slices.Equal(l, others) {
		t.Errorf("Names: %q, want %q", l, others)
	}
	for _, name := range others {
		if x, err := f.Read(name); x != "x" || err != api.OK {
			t.Errorf("Read(%s): %q, %d", name, x, err)
		}
	}
}

func TestOpenRemovesTemporary(t *testing.T) {
	s, f, _ := fresh(t, 40, 8)
	stored(t, s, "abc")
	write(t, f, named(1), packOf(t, "def"))
	write(t, f, "tmp", text(1, 600))
	holds(t, "opened", open(t, f), 1, 1, "abc", "def")
	if l := f.Names(); slices.Contains(l, "tmp") || len(l) != 2 {
		t.Errorf("Names: %q", l)
	}
	for n := 1; ; n++ {
		_, f, d := fresh(t, 30, 5)
		write(t, f, "tmp", "x")
		d.Cut(n)
		s, err := shelf.Open(f)
		if !d.Off() {
			if n < 4 || err != api.OK {
				t.Errorf("%d commands, %d", n-1, err)
			}
			break
		}
		if s != nil || err != api.ErrPower {
			t.Errorf("Open that is cut: %v, %d", s, err)
		}
	}
}

// P15.2

func TestPut(t *testing.T) {
	s, f, d := fresh(t, 60, 20)
	var texts []string
	for _, data := range []string{"", "a", "\x00\xff\n", text(1, 511), text(1, 512), text(1, 513), text(2, 5000)} {
		stored(t, s, data)
		texts = append(texts, data)
		holds(t, "after Put of "+short(data), s, len(texts), 0, texts...)
		if x, err := f.Read(looseName(data)); x != data || err != api.OK {
			t.Errorf("the file of %s: %s, %d", short(data), short(x), err)
		}
	}
	unchanged(t, "Put again", d, func() { stored(t, s, texts...) })
	ok(t, "Repack", s.Repack(idsOf(texts[:3]...)))
	unchanged(t, "Put of what is in a pack", d, func() { stored(t, s, texts[:3]...) })
	holds(t, "put again", s, 0, 1, texts[:3]...)
	stored(t, s, texts[4])
	holds(t, "a text beside a pack", s, 1, 1, append(texts[:3:3], texts[4])...)
	holds(t, "opened again", open(t, mount(t, d)), 1, 1, append(texts[:3:3], texts[4])...)
}

// Whether there is a text of an ID is one thing, what a Get of it returns another.
func TestPutFinds(t *testing.T) {
	_, f, d := fresh(t, 40, 10)
	write(t, f, looseName("abc"), "other")
	write(t, f, named(1), onePack(idOf("def"), "other"))
	write(t, f, named(2), brokenPack(idOf("ghi")))
	s := open(t, f)
	unchanged(t, "Put", d, func() { stored(t, s, "abc", "def", "ghi") })
	listed(t, "found", s, idsOf("abc", "def", "ghi")...)
	for _, data := range []string{"abc", "def", "ghi"} {
		ungot(t, "found", s, idOf(data), api.ErrCorrupt)
	}
	shaped(t, "found", s, 1, 2)
}

func TestPutLimits(t *testing.T) {
	full := text(1, maxData)
	s, f, d := fresh(t, 1200, 8)
	for _, n := range []int{1, 2, 1000, maxData} {
		unchanged(t, "Put of a text that is too long", d, func() { unstored(t, "too long", s, full+full[:n], api.ErrLong) })
	}
	// The length comes ahead of whether the ID exists.
	write(t, f, looseName(full+"x"), "")
	unstored(t, "too long", s, full+"x", api.ErrLong)
	ok(t, "Remove", f.Remove(looseName(full+"x")))
	write(t, f, named(1), brokenPack(idOf(full+"x")))
	unstored(t, "too long", open(t, f), full+"x", api.ErrLong)
	ok(t, "Remove", f.Remove(named(1)))
	stored(t, s, full)
	ok(t, "Repack", s.Repack(idsOf(full)))
	holds(t, "the longest", s, 0, 1, full)
	unchanged(t, "the longest again", d, func() { stored(t, s, full) })
	stored(t, s, full[1:])
	holds(t, "the longest, and another", s, 1, 1, full, full[1:])
}

func TestPutWithoutSpace(t *testing.T) {
	s, _, d := fresh(t, 20, 4) // 9 data units
	stored(t, s, text(1, 4*512), text(2, 1))
	unchanged(t, "Put of too many units", d, func() { unstored(t, "too many units", s, text(3, 4*512+1), api.ErrSpace) })
	stored(t, s, text(3, 4*512))
	unchanged(t, "Put without a unit", d, func() { unstored(t, "no unit", s, "x", api.ErrSpace) })
	unchanged(t, "Put of what is there", d, func() { stored(t, s, text(2, 1)) })
	stored(t, s, "")
	unchanged(t, "Put without an entry", d, func() { unstored(t, "no entry", s, "x", api.ErrSpace) })
	holds(t, "full", s, 4, 0, text(1, 4*512), text(2, 1), text(3, 4*512), "")
}

func TestGet(t *testing.T) {
	s, f, _ := fresh(t, 60, 20)
	stored(t, s, "abc", "def")
	ok(t, "Repack", s.Repack(idsOf("def", "abc")))
	stored(t, s, "ghi")
	holds(t, "both kinds", s, 1, 1, "abc", "def", "ghi")
	for _, id := range []string{"", "a", idOf("abc")[:31], idOf("abc") + "\x00", looseName("abc")[1:], looseName("abc")} {
		ungot(t, "no ID", s, id, api.ErrArg)
		if s.Has(id) {
			t.Errorf("Has(%q)", id)
		}
	}
	ungot(t, "no text", s, idOf("none"), api.ErrNone)
	if s.Has(idOf("none")) {
		t.Error("Has what is not there")
	}
	write(t, f, looseName("other"), "x")
	ungot(t, "another text", s, idOf("other"), api.ErrCorrupt)
	if !s.Has(idOf("other")) {
		t.Error("Has")
	}
}

// A file of its own comes ahead of all packs, and of these that with the least name.
func TestGetOfSeveral(t *testing.T) {
	_, f, _ := fresh(t, 60, 20)
	write(t, f, named(7), packOf(t, "a", "b", "c"))
	write(t, f, named(3), packOf(t, "b", "c", "d", "e"))
	write(t, f, named(0xff), packOf(t, "e", "f"))
	s := open(t, f)
	stored(t, s, "a", "x")
	holds(t, "in several", s, 1, 3, "a", "b", "c", "d", "e", "f", "x")
	write(t, f, looseName("c"), "c")
	write(t, f, looseName("d"), "other")
	ungot(t, "the file is another text's", s, idOf("d"), api.ErrCorrupt)
	ok(t, "Remove", f.Remove(looseName("d")))
	holds(t, "in a file too", s, 2, 3, "a", "b", "c", "d", "e", "f", "x")
	// A pack that comes ahead of the others.
	write(t, f, named(1), onePack(idOf("b"), "other"))
	s = open(t, f)
	ungot(t, "the first pack has another text", s, idOf("b"), api.ErrCorrupt)
	got(t, "the first pack", s, "a", "c", "d", "e", "f", "x")
	// One that comes behind.
	ok(t, "Rename", f.Rename(named(1), named(4)))
	s = open(t, f)
	holds(t, "the second pack has another text", s, 2, 4, "a", "b", "c", "d", "e", "f", "x")
	write(t, f, named(2), brokenPack(idOf("f")))
	s = open(t, f)
	ungot(t, "the first pack has no base", s, idOf("f"), api.ErrCorrupt)
	listed(t, "the first pack has no base", s, idsOf("a", "b", "c", "d", "e", "f", "x")...)
}

// The error of a pack's Get is that of the shelf's.
func TestGetOfWrongDeltas(t *testing.T) {
	item := func(id, base, d string) string { return id + "\x01" + base + string([]byte{byte(len(d))}) + d }
	a, b := slices.Repeat([]byte{1}, 32), slices.Repeat([]byte{2}, 32)
	for d, want := range map[string]api.Errno{
		"":                     api.ErrShort,
		"\xfc":                 api.ErrForm,
		"\x02\x00":             api.ErrStale,
		"\x01\x00\x00\x01":     api.ErrShort,
		"\x01\x02":             api.ErrTail,
		"\x01\x00\x01\x00\x01": api.ErrLong,
		"\x01\x01\x00\x01y":    api.ErrCorrupt,
	} {
		body := "PK\x02" + string(a) + "\x00\x01x" + item(string(b), string(a), d)
		_, f, _ := fresh(t, 30, 5)
		write(t, f, named(1), body+idOf(body))
		s := open(t, f)
		ungot(t, "a wrong delta", s, string(b), want)
		is(t, "Repack", s.Repack([]string{string(b)}), want)
	}
	body := "PK\x01" + item(string(a), string(a), "\x00\x00")
	_, f, _ := fresh(t, 30, 5)
	write(t, f, named(1), body+idOf(body))
	s := open(t, f)
	ungot(t, "a circle", s, string(a), api.ErrDeep)
	if !s.Has(string(a)) {
		t.Error("Has of a circle")
	}
}

func TestIDs(t *testing.T) {
	s, f, _ := fresh(t, 80, 40)
	listed(t, "empty", s)
	var texts []string
	for i := range 20 {
		texts = append(texts, text(i, i))
	}
	stored(t, s, texts[:12]...)
	write(t, f, named(1), packOf(t, texts[5:15]...))
	write(t, f, named(2), packOf(t, texts[10:]...))
	write(t, f, named(0), packOf(t))
	s = open(t, f)
	holds(t, "each once", s, 12, 3, texts...)
	l := s.IDs()
	for i := range l {
		l[i] = "changed"
	}
	holds(t, "what IDs returned has changed", s, 12, 3, texts...)
}

// Without power, IDs, Has and Shape tell what was known; the others have errors.
func TestWithoutPower(t *testing.T) {
	s, _, d := fresh(t, 40, 8)
	stored(t, s, "abc")
	ok(t, "Repack", s.Repack(idsOf("abc")))
	stored(t, s, "def")
	powerless := func(what string) {
		for _, data := range []string{"abc", "def", "new", text(1, maxData+1)} {
			unstored(t, what, s, data, api.ErrPower)
			ungot(t, what, s, idOf(data), api.ErrPower)
		}
		ungot(t, what, s, "", api.ErrArg)
		for _, keep := range [][]string{nil, idsOf("abc"), idsOf("none"), {""}} {
			is(t, what+": Repack", s.Repack(keep), api.ErrPower)
		}
		listed(t, what, s, idsOf("abc", "def")...)
		shaped(t, what, s, 1, 1)
		if s.Has(idOf("none")) || s.Has("") {
			t.Error("Has what is not there")
		}
	}
	off(d)
	powerless("without power")
	d.On()
	holds(t, "the power is on again", s, 1, 1, "abc", "def")
	d.Cut(3)
	unstored(t, "cut", s, "newer", api.ErrPower)
	d.On()
	powerless("after the power failed in a call")
	holds(t, "opened again", open(t, mount(t, d)), 1, 1, "abc", "def")
}

func TestNil(t *testing.T) {
	var s *shelf.Shelf
	for _, data := range []string{"", "abc", text(1, maxData+1)} {
		unstored(t, "nil", s, data, api.ErrArg)
		ungot(t, "nil", s, idOf(data), api.ErrArg)
		is(t, "Repack of nil", s.Repack(idsOf(data)), api.ErrArg)
		if s.Has(idOf(data)) {
			t.Error("Has of nil")
		}
	}
	ungot(t, "nil", s, "", api.ErrArg)
	is(t, "Repack of nil", s.Repack(nil), api.ErrArg)
	listed(t, "nil", s)
	shaped(t, "nil", s, 0, 0)
}

// No call of a shelf that was made by hand panics (P1).
func TestByHand(t *testing.T) {
	s := new(shelf.Shelf)
	s.Put("abc")
	s.Get(idOf("abc"))
	s.Has(idOf("abc"))
	s.IDs()
	s.Shape()
	s.Repack(nil)
	s.Repack(idsOf("abc"))
	shelf.Open(new(file.Store))
}
