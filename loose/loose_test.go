package loose_test

import (
	"slices"
	"strings"
	"testing"

	"stemma/api"
	"stemma/file"
	"stemma/loose"
)

// P12.1

func TestOpenRefuses(t *testing.T) {
	if s, err := loose.Open(nil); s != nil || err != api.ErrArg {
		t.Errorf("Open of no files: %v, %d", s, err)
	}
	for _, temporary := range []bool{true, false} {
		_, f, d := fresh(t, 30, 5)
		if temporary {
			ok(t, "Write", f.Write("tmp", "x"))
		}
		off(d)
		if s, err := loose.Open(f); s != nil || err != api.ErrPower {
			t.Errorf("Open without power: %v, %d", s, err)
		}
	}
}

func TestOpenRemovesTemporary(t *testing.T) {
	s, f, d := fresh(t, 30, 5)
	stored(t, s, "abc")
	for _, name := range []string{"tmp", "tmp2", "otmp", "p"} {
		ok(t, "Write", f.Write(name, text(1, 600)))
	}
	open(t, f)
	want := []string{nameOf("abc"), "otmp", "p", "tmp2"}
	slices.Sort(want)
	if l := f.Names(); !slices.Equal(l, want) {
		t.Errorf("Names: %q, want %q", l, want)
	}
	for _, name := range []string{"tmp2", "otmp", "p"} {
		if x, err := f.Read(name); x != text(1, 600) || err != api.OK {
			t.Errorf("Read(%s): %s, %d", name, short(x), err)
		}
	}
	unchanged(t, "Open without tmp", d, func() { holds(t, "opened", open(t, f), "abc") })
}

func TestOpenCut(t *testing.T) {
	for n := 1; ; n++ {
		_, f, d := fresh(t, 30, 5)
		ok(t, "Write", f.Write("tmp", "x"))
		d.Cut(n)
		s, err := loose.Open(f)
		if !d.Off() {
			if n < 4 || err != api.OK {
				t.Errorf("%d commands, %d", n-1, err)
			}
			break
		}
		if s != nil || err != api.ErrPower {
			t.Errorf("Open that is cut: %v, %d", s, err)
		}
	}
}

// P12.2

func TestPut(t *testing.T) {
	s, f, _ := fresh(t, 60, 20)
	var texts []string
	for _, data := range []string{"", "a", "\x00\xff\n", text(1, 511), text(1, 512), text(1, 513), text(2, 5000), nameOf("")} {
		stored(t, s, data)
		texts = append(texts, data)
		holds(t, "after Put of "+short(data), s, texts...)
		if x, err := f.Read(nameOf(data)); x != data || err != api.OK {
			t.Errorf("the file of %s: %s, %d", short(data), short(x), err)
		}
		if _, err := f.Size("tmp"); err != api.ErrNone {
			t.Errorf("tmp is left: %d", err)
		}
	}
	if l := f.Names(); len(l) != len(texts) {
		t.Errorf("%d texts, the files are %q", len(texts), l)
	}
}

func TestPutTwice(t *testing.T) {
	s, _, d := fresh(t, 30, 5)
	stored(t, s, "abc")
	unchanged(t, "the second Put", d, func() { stored(t, s, "abc") })
	counted(t, "put twice", s, 1, 1, 0)
	holds(t, "put twice", s, "abc")
}

// What counts is whether there is a file: not what is in it, and not who wrote it.
func TestPutFindsFiles(t *testing.T) {
	s, f, d := fresh(t, 30, 5)
	ok(t, "Write", f.Write(nameOf("abc"), "other"))
	unchanged(t, "Put", d, func() { stored(t, s, "abc") })
	counted(t, "found", s, 0, 1, 0)
	ungot(t, "found", s, idOf("abc"), api.ErrCorrupt)
	ok(t, "Remove", f.Remove(nameOf("abc")))
	stored(t, s, "abc")
	counted(t, "removed", s, 1, 1, 0)
	holds(t, "removed", s, "abc")
}

func TestPutOverTemporary(t *testing.T) {
	s, f, _ := fresh(t, 30, 5)
	ok(t, "Write", f.Write("tmp", text(1, 900)))
	stored(t, s, "abc")
	holds(t, "put", s, "abc")
	if l := f.Names(); !slices.Equal(l, []string{nameOf("abc")}) {
		t.Errorf("Names: %q", l)
	}
}

func TestPutLimits(t *testing.T) {
	full := text(1, maxData)
	s, f, d := fresh(t, 1100, 5)
	for _, n := range []int{1, 2, 1000, maxData} {
		unchanged(t, "Put of a text that is too long", d, func() { unstored(t, "too long", s, full+full[:n], api.ErrLong) })
	}
	ok(t, "Write", f.Write(nameOf(full+"x"), "")) // the length comes ahead of the file
	unstored(t, "too long", s, full+"x", api.ErrLong)
	ok(t, "Remove", f.Remove(nameOf(full+"x")))
	stored(t, s, full)
	stored(t, s, full[1:])
	holds(t, "the longest", s, full, full[1:])
	counted(t, "the longest", s, 2, 0, 2)
}

func TestPutWithoutSpace(t *testing.T) {
	s, f, d := fresh(t, 20, 4) // 9 data units
	stored(t, s, text(1, 4*512))
	stored(t, s, text(2, 1))
	unchanged(t, "Put of too many units", d, func() { unstored(t, "too many units", s, text(3, 4*512+1), api.ErrSpace) })
	stored(t, s, text(3, 4*512))
	unchanged(t, "Put without a unit", d, func() { unstored(t, "no unit", s, "x", api.ErrSpace) })
	unchanged(t, "Put of what is there", d, func() { stored(t, s, text(2, 1)) })
	stored(t, s, "")
	ok(t, "Drop", s.Drop(idOf(text(3, 4*512))))
	ok(t, "Write", f.Write("other", ""))
	unchanged(t, "Put without an entry", d, func() { unstored(t, "no entry", s, "x", api.ErrSpace) })
	counted(t, "full", s, 4, 1, 0)
	holds(t, "full", s, text(1, 4*512), text(2, 1), "")
}

func TestPutWithoutPower(t *testing.T) {
	s, _, d := fresh(t, 30, 5)
	stored(t, s, "abc")
	off(d)
	for _, data := range []string{"abc", "new", text(1, maxData+1)} {
		unstored(t, "without power", s, data, api.ErrPower)
	}
	counted(t, "without power", s, 1, 0, 0)
	d.On()
	stored(t, s, "new")
	d.Cut(3)
	unstored(t, "cut", s, "newer", api.ErrPower)
	d.On()
	for _, data := range []string{"abc", "newer", text(1, maxData+1)} {
		unstored(t, "after the power failed in a call", s, data, api.ErrPower)
	}
	counted(t, "after the power failed", s, 2, 0, 0)
}

// P12.3

func TestGet(t *testing.T) {
	s, f, _ := fresh(t, 30, 10)
	stored(t, s, "abc")
	ok(t, "Write", f.Write("o", "x"))
	ok(t, "Write", f.Write("o"+strings.Repeat("61", 31), "x"))
	ok(t, "Write", f.Write(nameOf("other"), "x"))
	for _, id := range []string{"", "a", strings.Repeat("a", 31), strings.Repeat("a", 33), strings.Repeat("a", 64), nameOf("abc")[1:]} {
		ungot(t, "no ID", s, id, api.ErrArg)
		is(t, "Drop of what is no ID", s.Drop(id), api.ErrArg)
		if s.Has(id) {
			t.Errorf("Has(%q)", id)
		}
	}
	ungot(t, "no file", s, idOf("none"), api.ErrNone)
	ungot(t, "a file of another text", s, idOf("other"), api.ErrCorrupt)
	if s.Has(idOf("none")) || !s.Has(idOf("other")) {
		t.Error("Has")
	}
	counted(t, "no Get", s, 1, 0, 0)
	got(t, "abc", s, "abc")
	got(t, "abc", s, "abc")
	counted(t, "two Gets", s, 1, 0, 2)
}

// A file of an ID may be longer than what can be put.
func TestGetOfLongFile(t *testing.T) {
	s, f, _ := fresh(t, 2100, 5)
	long := text(1, api.MaxFile)
	ok(t, "Write", f.Write(nameOf(long), long))
	holds(t, "long", s, long)
}

func TestDrop(t *testing.T) {
	s, f, d := fresh(t, 30, 10)
	stored(t, s, "abc")
	stored(t, s, "def")
	is(t, "Drop of no file", s.Drop(idOf("none")), api.ErrNone)
	is(t, "Drop", s.Drop(idOf("abc")), api.OK)
	is(t, "Drop again", s.Drop(idOf("abc")), api.ErrNone)
	holds(t, "dropped", s, "def")
	ungot(t, "dropped", s, idOf("abc"), api.ErrNone)
	if s.Has(idOf("abc")) {
		t.Error("Has what was dropped")
	}
	if l := f.Names(); !slices.Equal(l, []string{nameOf("def")}) {
		t.Errorf("Names: %q", l)
	}
	stored(t, s, "abc")
	holds(t, "put again", s, "abc", "def")
	counted(t, "put again", s, 3, 0, 3)
	d.Cut(1)
	is(t, "Drop that is cut", s.Drop(idOf("abc")), api.ErrPower)
}

func TestList(t *testing.T) {
	s, f, _ := fresh(t, 60, 30)
	listed(t, "empty", s)
	digits := nameOf("x")[1:]
	for _, name := range []string{
		"tmp", "o", "p" + digits, "O" + digits, digits, "o" + digits[:63], "o" + digits + "0", "oo" + digits, "o" + digits[:63] + "g",
		"o" + digits[:63] + "A", "o" + strings.Repeat("F", 64), strings.Repeat("0", 65), "q" + digits, "refs",
	} {
		ok(t, "Write", f.Write(name, "x"))
	}
	listed(t, "the files of others", s)
	var ids []string
	for _, c := range "0aA9\x00\xff" {
		id := strings.Repeat(string([]byte{byte(c)}), 32)
		ids = append(ids, id)
	}
	ids = append(ids, "\x00"+strings.Repeat("\xff", 31), "\x9f"+strings.Repeat("\xa0", 31), strings.Repeat("\xf9", 32))
	for _, id := range ids {
		ok(t, "Write", f.Write(hexFile(id), "x"))
	}
	listed(t, "any IDs", s, ids...)
	stored(t, s, "")
	listed(t, "with an empty text", s, append(ids, idOf(""))...)
}

// Without power, List and Has tell what was known, as the names of the files are; the others have errors.
func TestWithoutPower(t *testing.T) {
	s, f, d := fresh(t, 30, 5)
	stored(t, s, "abc")
	ok(t, "Write", f.Write("o", "x"))
	off(d)
	listed(t, "without power", s, idOf("abc"))
	if s.Has(idOf("none")) || s.Has("") {
		t.Error("Has what is not there")
	}
	ungot(t, "without power", s, idOf("abc"), api.ErrPower)
	ungot(t, "without power", s, idOf("none"), api.ErrPower)
	ungot(t, "without power", s, "", api.ErrArg)
	is(t, "Drop", s.Drop(idOf("abc")), api.ErrPower)
	is(t, "Drop of no ID", s.Drop(""), api.ErrArg)
	counted(t, "without power", s, 1, 0, 0)
}

func TestNil(t *testing.T) {
	var s *loose.Store
	for _, data := range []string{"", "abc", text(1, maxData+1)} {
		unstored(t, "nil", s, data, api.ErrArg)
		ungot(t, "nil", s, idOf(data), api.ErrArg)
		is(t, "Drop of nil", s.Drop(idOf(data)), api.ErrArg)
		if s.Has(idOf(data)) {
			t.Error("Has of nil")
		}
	}
	ungot(t, "nil", s, "", api.ErrArg)
	listed(t, "nil", s)
	counted(t, "nil", s, 0, 0, 0)
}

// No call of a store that was made by hand panics (P1).
func TestByHand(t *testing.T) {
	s := new(loose.Store)
	s.Put("abc")
	s.Get(idOf("abc"))
	s.Has(idOf("abc"))
	s.Drop(idOf("abc"))
	s.List()
	s.Counts()
	loose.Open(new(file.Store))
}

// Each Open counts anew, and each store for itself.
func TestCounts(t *testing.T) {
	s, f, _ := fresh(t, 30, 5)
	counted(t, "new", s, 0, 0, 0)
	stored(t, s, "abc")
	stored(t, s, "abc")
	got(t, "one", s, "abc")
	counted(t, "one", s, 1, 1, 1)
	other := open(t, f)
	counted(t, "opened again", other, 0, 0, 0)
	stored(t, other, "abc")
	got(t, "other", other, "abc")
	got(t, "other", other, "abc")
	counted(t, "other", other, 0, 1, 2)
	counted(t, "one", s, 1, 1, 1)
}
