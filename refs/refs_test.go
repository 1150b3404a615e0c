package refs_test

import (
	"fmt"
	"slices"
	"strings"
	"testing"

	"stemma/api"
	"stemma/file"
	"stemma/names"
	"stemma/nums"
	"stemma/refs"
)

// P17.1

func TestFormat(t *testing.T) {
	for _, head := range []string{"heads/main", "heads/a/b.c", "heads/" + strings.Repeat("z", 58)} {
		d := formatted(t, 30, 4)
		f := mount(t, d)
		ok(t, "Write", f.Write("other", "x"))
		is(t, "Format", refs.Format(f, head), api.OK)
		if s, want := text(t, f), whole(names.Table{Head: head}); s != want {
			t.Errorf("the file is %q, want %q", s, want)
		}
		if l := f.Names(); !slices.Equal(l, []string{"other", "refs"}) {
			t.Errorf("Names: %q", l)
		}
		has(t, "formatted", open(t, f), mount(t, d), names.Table{Head: head})
		unchanged(t, "Format again", d, func() {
			is(t, "Format again", refs.Format(f, head), api.ErrExists)
			is(t, "Format again, no head", refs.Format(f, "tags/a"), api.ErrName)
		})
	}
}

func TestFormatRefuses(t *testing.T) {
	is(t, "no files", refs.Format(nil, "heads/main"), api.ErrArg)
	is(t, "no files, no head", refs.Format(nil, ""), api.ErrArg)
	f := mount(t, formatted(t, 30, 2))
	for _, head := range []string{"", "main", "heads", "heads/", "tags/a", "heads/A", "heads/a..b", "refs", "heads/" + strings.Repeat("z", 59)} {
		is(t, "the head "+head, refs.Format(f, head), api.ErrName)
	}
	if l := f.Names(); len(l) != 0 {
		t.Errorf("Names: %q", l)
	}
	// Whatever the file has, there is one.
	ok(t, "Write", f.Write("refs", ""))
	is(t, "an empty file", refs.Format(f, "heads/main"), api.ErrExists)
	if s := text(t, f); s != "" {
		t.Errorf("the file is %q", s)
	}
	ok(t, "Rename", f.Rename("refs", "other"))
	ok(t, "Write", f.Write("another", ""))
	is(t, "no entry", refs.Format(f, "heads/main"), api.ErrSpace)
	ok(t, "Remove", f.Remove("another"))
	ok(t, "Write", f.Write("other", strings.Repeat("x", 21*512)))
	is(t, "no unit", refs.Format(f, "heads/main"), api.ErrSpace)
}

func TestFormatWithoutPower(t *testing.T) {
	for _, exists := range []bool{false, true} {
		d := formatted(t, 30, 4)
		f := mount(t, d)
		want, then := api.ErrPower, api.OK
		if exists {
			ok(t, "Format", refs.Format(f, "heads/main"))
			want, then = api.ErrExists, api.ErrExists
		}
		off(d)
		is(t, "without power", refs.Format(f, "heads/main"), want)
		is(t, "without power, no head", refs.Format(f, ""), api.ErrName)
		d.On()
		is(t, "the power is on again", refs.Format(mount(t, d), "heads/a"), then)
	}
}

func TestOpenRefuses(t *testing.T) {
	refused := func(what string, f *file.Store, want api.Errno) {
		t.Helper()
		if r, err := refs.Open(f); r != nil || err != want {
			t.Errorf("%s: Open: %v, %d, want %d", what, r, err, want)
		}
	}
	refused("no files", nil, api.ErrArg)
	d := formatted(t, 30, 4)
	f := mount(t, d)
	refused("no file", f, api.ErrNone)
	ok(t, "Write", f.Write("Refs", whole(names.Table{Head: "heads/main"})))
	refused("another file", f, api.ErrNone)
	ok(t, "Write", f.Write("refs", "x"))
	off(d)
	refused("without power", f, api.ErrPower)
}

// small is a table.
func small() names.Table {
	l := []names.Update{create("heads/main", 'a'), create("tags/v", 'b')}
	return names.Table{Refs: []names.Ref{{Name: "heads/main", ID: id('a')}, {Name: "tags/v", ID: id('b')}}, Head: "heads/main", Log: l}
}

func TestOpenTakes(t *testing.T) {
	x := small()
	after := func(l []names.Update, head string) names.Table {
		t.Helper()
		y, err := x.Apply(l, head)
		ok(t, "Apply", err)
		return y
	}
	l := one("heads/main", id('a'), id('c'))
	both := append(l[:1:1], create("heads/new", 'd'))
	for what, c := range map[string]struct {
		text string
		want names.Table
	}{
		"a table":          {whole(x), x},
		"one without refs": {whole(names.Table{Head: "heads/x"}), names.Table{Head: "heads/x"}},
		"a change":         {whole(x) + change(l, ""), after(l, "")},
		"of two":           {whole(x) + change(both, "heads/new"), after(both, "heads/new")},
		"of the head":      {whole(x) + change(nil, "heads/y"), after(nil, "heads/y")},
		"of none":          {whole(x) + change(nil, "heads/main"), x},
		"several": {whole(names.Table{Head: "heads/z"}) + change(x.Log[:1], "heads/main") + change(nil, "heads/q") + change(x.Log[1:], "heads/main") + change(l, ""),
			after(l, "")},
	} {
		r, f, d := holding(t, 40, c.text)
		unchanged(t, what, d, func() { has(t, what, r, f, c.want) })
	}
}

// What was appended has no limit when it is read.
func TestOpenLong(t *testing.T) {
	x := names.Table{Head: "heads/main"}
	s := whole(x)
	for i := range 4000 {
		l := []names.Update{{Name: fmt.Sprintf("heads/%d", i%7), Old: fmt.Sprintf("%032d", i-7), New: fmt.Sprintf("%032d", i)}}
		if i < 7 {
			l[0].Old = ""
		}
		s += change(l, "")
		var err api.Errno
		if x, err = x.Apply(l, ""); err != api.OK {
			t.Fatal(err)
		}
	}
	if len(s) < 300000 {
		t.Fatal(len(s))
	}
	r, f, d := holding(t, 2000, s)
	has(t, "many changes", r, f, x)
	// The next Update makes it short.
	l := []names.Update{create("heads/new", 1)}
	x, err := x.Apply(l, "heads/new")
	ok(t, "Apply", err)
	is(t, "Update", r.Update(l, "heads/new"), api.OK)
	if s := text(t, f); s != whole(x) {
		t.Errorf("the file has %d bytes", len(s))
	}
	has(t, "after it", r, mount(t, d), x)
}

func TestOpenCorrupt(t *testing.T) {
	x := small()
	good, next := whole(x), change(one("heads/main", id('a'), id('c')), "")
	body := names.Encode(x)
	part := func(s ...string) string { return nums.Join(s...) }
	texts := map[string]string{
		"nothing":                       "",
		"no frame":                      "refs",
		"no table":                      next,
		"a table behind a change":       next + good,
		"two tables":                    good + good,
		"a table behind all":            good + next + good,
		"another kind":                  frame(0, body),
		"a change's kind":               frame(2, body),
		"the kind 3":                    frame(3, body),
		"a wrong body":                  frame(1, body+"\x00"),
		"an empty body":                 frame(1, ""),
		"no head":                       whole(names.Table{}),
		"a change of another kind":      good + frame(3, next[2:len(next)-4]),
		"a change with a table's kind":  good + frame(1, next[2:len(next)-4]),
		"a byte behind":                 good + "\x00",
		"a frame's beginning":           good + next[:len(next)-1],
		"the same again":                good + next + next,
		"an empty change":               good + frame(2, ""),
		"of one part":                   good + frame(2, part("heads/main")),
		"of three parts":                good + frame(2, part("heads/main", part(fields(one("heads/main", id('a'), id('c')))...), "")),
		"of a part that breaks off":     good + frame(2, part("heads/main")+"\x05"),
		"of fields that break off":      good + frame(2, part("heads/x", part(fields(one("heads/main", id('a'), id('c')))...)+"\x05")),
		"of a wrong length":             good + frame(2, part("heads/x", "\xff")),
		"of one field":                  good + frame(2, part("heads/x", part("heads/main"))),
		"of two fields":                 good + frame(2, part("heads/x", part("heads/main", id('a')))),
		"of four fields":                good + frame(2, part("heads/x", part("heads/main", id('a'), id('c'), "heads/x"))),
		"of nothing":                    good + change(nil, ""),
		"of a head that is none":        good + change(nil, "tags/v"),
		"of a wrong name":               good + change(one("heads/", "", id('c')), ""),
		"of a wrong ID":                 good + change(one("heads/main", id('a'), "c"), ""),
		"from nothing to nothing":       good + change(one("heads/new", "", ""), ""),
		"of a name that occurs twice":   good + change(append(one("heads/new", "", id('c')), create("heads/new", 'd')), ""),
		"of another ID":                 good + change(one("heads/main", id('b'), id('c')), ""),
		"of what is not there":          good + change(one("heads/none", id('a'), id('c')), ""),
		"of what is there":              good + change(one("heads/main", "", id('c')), ""),
		"the second of another ID":      good + next + change(one("heads/main", id('a'), id('d')), ""),
		"one in the middle":             good + change(one("heads/main", "", id('c')), "") + next,
		"a wrong sum":                   good[:len(good)-1] + string([]byte{good[len(good)-1] ^ 1}) + next,
		"a wrong sum of a change":       good + next[:len(next)-1] + string([]byte{next[len(next)-1] ^ 1}),
		"a wrong sum of one in between": good + next[:len(next)-1] + string([]byte{next[len(next)-1] ^ 1}) + change(nil, "heads/x"),
	}
	all := good + next
	for i := range all {
		if i != len(good) {
			texts[fmt.Sprintf("the first %d bytes", i)] = all[:i]
		}
		b := []byte(all)
		b[i] ^= 0x10
		texts[fmt.Sprintf("byte %d changed", i)] = string(b)
	}
	for what, s := range texts {
		f := mount(t, formatted(t, 30, 2))
		ok(t, "Write", f.Write("refs", s))
		if r, err := refs.Open(f); r != nil || err != api.ErrCorrupt {
			t.Errorf("%s: Open: %v, %d", what, r, err)
		}
	}
}

// Nobody else has the lists that Table returns.
func TestTableIsNew(t *testing.T) {
	r, f, _ := fresh(t, 40, 4)
	l := []names.Update{create("heads/main", 'a'), create("tags/v", 'b')}
	is(t, "Update", r.Update(l, ""), api.OK)
	for range 2 {
		clear(l)
		x := r.Table()
		x.Refs, x.Log = x.Refs[:cap(x.Refs)], x.Log[:cap(x.Log)]
		clear(x.Refs)
		clear(x.Log)
		has(t, "what Table returned, and what Update was given, has changed", r, f, small())
		r = open(t, f)
	}
	x := r.Table()
	is(t, "Update", r.Update([]names.Update{create("heads/a", 'c')}, "heads/a"), api.OK)
	if !same(x, small()) {
		t.Error("an Update has changed what Table returned before")
	}
}

// P17.2

func TestNil(t *testing.T) {
	var r *refs.Refs
	if x := r.Table(); !same(x, names.Table{}) {
		t.Errorf("Table of nil: %s", show(x))
	}
	is(t, "nil", r.Update([]names.Update{create("heads/a", 1)}, ""), api.ErrArg)
	is(t, "nil", r.Update([]names.Update{create("x", 1)}, ""), api.ErrArg)
	is(t, "nil", r.Update(nil, "heads/a"), api.ErrArg)
	is(t, "nil", r.Update(nil, "x"), api.ErrArg)
}

// No call of a table that was made by hand panics (P1).
func TestByHand(t *testing.T) {
	r := new(refs.Refs)
	r.Table()
	r.Update([]names.Update{create("heads/a", 1)}, "heads/a")
	f := new(file.Store)
	refs.Open(f)
	refs.Format(f, "heads/main")
}

func TestUpdate(t *testing.T) {
	r, f, d := fresh(t, 60, 4)
	x := names.Table{Head: "heads/main"}
	want := whole(x)
	step := func(what string, l []names.Update, head string) {
		t.Helper()
		is(t, what, r.Update(l, head), api.OK)
		var err api.Errno
		x, err = x.Apply(l, head)
		ok(t, "Apply", err)
		want += change(l, head)
		if s := text(t, f); s != want {
			t.Errorf("%s: the file is %q, want %q", what, s, want)
		}
		has(t, what, r, mount(t, d), x)
	}
	step("the example", []names.Update{create("heads/main", 'a')}, "")
	step("with a head", []names.Update{create("heads/b", 'b')}, "heads/b")
	step("the head", nil, "heads/none")
	step("the same head", []names.Update{}, "heads/none")
	step("several", slices.Concat(one("tags/v", "", id('c')), one("heads/main", id('a'), id('d')), one("heads/b", id('b'), "")), "")
	step("not in order", slices.Concat(one("tags/v", id('c'), ""), one("heads/main", id('d'), "")), "heads/main")
	if x := r.Table(); len(x.Refs) != 0 || len(x.Log) != 7 {
		t.Errorf("at the end: %s", show(x))
	}
}

func TestUpdateErrors(t *testing.T) {
	r, f, d := holding(t, 40, whole(small()))
	errors := func(power string) {
		for _, c := range []struct {
			what string
			l    []names.Update
			head string
			want api.Errno
		}{
			{"nothing", nil, "", api.ErrArg},
			{"a wrong name", []names.Update{create("heads", 'c')}, "", api.ErrName},
			{"a tag as the head", nil, "tags/v", api.ErrName},
			{"twice", []names.Update{create("heads/c", 'c'), create("heads/c", 'c')}, "", api.ErrArg},
			{"a wrong ID", one("heads/main", id('a'), "x"), "", api.ErrArg},
			{"the same", one("heads/main", id('a'), id('a')), "", api.ErrArg},
			{"another", one("heads/main", id('b'), id('a')), "heads/x", api.ErrStale},
			{"one of two", append(one("heads/main", id('a'), id('c')), create("tags/v", 'c')), "", api.ErrStale},
		} {
			is(t, c.what+power, r.Update(c.l, c.head), c.want)
		}
	}
	unchanged(t, "errors", d, func() {
		errors("")
		has(t, "after errors", r, f, small())
	})
	off(d)
	errors(", without power")
	is(t, "without power", r.Update(one("heads/main", id('a'), id('c')), ""), api.ErrPower)
	if x := r.Table(); !same(x, small()) {
		t.Errorf("without power: %s", show(x))
	}
	d.On()
	has(t, "the power is on again", r, mount(t, d), small())
	is(t, "the power is on again", open(t, mount(t, d)).Update(one("heads/main", id('a'), id('c')), ""), api.OK)
}

// long returns updates that make n references from one number on.
func long(from, n int) []names.Update {
	var l []names.Update
	for i := range n {
		l = append(l, names.Update{Name: fmt.Sprintf("tags/%05d", from+i), New: fmt.Sprintf("%032d", from+i)})
	}
	return l
}

// upTo returns a table on a disk whose file has so many bytes, by changes that are long enough.
func upTo(t *testing.T, size int) (*refs.Refs, *file.Store, names.Table) {
	t.Helper()
	s := whole(names.Table{Head: "heads/main"})
	for i := 0; size-len(s) >= 200; i++ {
		s += change(long(i, 1), "")
	}
	// Heads have any length from 7 to 64.
	for len(s) < size {
		n := size - len(s)
		head := "heads/" + strings.Repeat("h", min(n-len(change(nil, "heads/")), 58))
		if rest := n - len(change(nil, head)); rest > 0 && rest < 20 {
			head = head[:len(head)-20]
		}
		s += change(nil, head)
	}
	if len(s) != size {
		t.Fatalf("%d bytes, want %d", len(s), size)
	}
	r, f, _ := holding(t, 100, s)
	return r, f, r.Table()
}

// Up to 8192 bytes a change is appended, beyond that the table is written anew.
func TestUpdateAtTheLimit(t *testing.T) {
	l := long(50000, 1)
	size := len(change(l, ""))
	for _, end := range []int{8000, 8190, 8191, 8192, 8193, 8194, 8300} {
		r, f, x := upTo(t, end-size)
		before := text(t, f)
		is(t, "Update", r.Update(l, ""), api.OK)
		y, err := x.Apply(l, "")
		ok(t, "Apply", err)
		want := before + change(l, "")
		if end > 8192 {
			want = whole(y)
		}
		if s := text(t, f); s != want {
			t.Errorf("up to %d bytes: the file has %d, want %d", end, len(s), len(want))
		}
		has(t, fmt.Sprintf("up to %d bytes", end), r, f, y)
	}
	for _, end := range []int{8191, 8192, 8193} {
		head := "heads/other"
		r, f, x := upTo(t, end-len(change(nil, head)))
		before := text(t, f)
		is(t, "Update", r.Update(nil, head), api.OK)
		x.Head = head
		want := before + change(nil, head)
		if end > 8192 {
			want = whole(x)
		}
		if s := text(t, f); s != want {
			t.Errorf("a head up to %d bytes: the file has %d, want %d", end, len(s), len(want))
		}
		has(t, "a head", r, f, x)
	}
}

// Changes that are long by themselves, some of which no frame could hold.
func TestUpdateLong(t *testing.T) {
	const n = 4500
	r, f, d := fresh(t, 2000, 4)
	var x names.Table
	step := func(what string, l []names.Update) {
		t.Helper()
		y, err := r.Table().Apply(l, "")
		ok(t, "Apply", err)
		is(t, what, r.Update(l, ""), api.OK)
		if s := text(t, f); s != whole(y) {
			t.Errorf("%s: the file has %d bytes, want %d", what, len(s), len(whole(y)))
		}
		has(t, what, r, mount(t, d), y)
		x = y
	}
	unchanged(t, "neither fits", d, func() {
		is(t, "neither fits", r.Update(long(0, 8000), ""), api.ErrLong)
		has(t, "neither fits", r, f, names.Table{Head: "heads/main"})
	})
	step("many at once", long(0, n))
	var l []names.Update
	for i, u := range long(0, n) {
		l = append(l, names.Update{Name: u.Name, Old: u.New, New: fmt.Sprintf("%032d", n+i)})
	}
	if s := nums.Join("", nums.Join(fields(l)...)); len(s) <= api.MaxBody {
		t.Fatal(len(s))
	}
	step("more than a frame holds", l)
	step("one more", long(n, 1))
	// A table that no frame holds: nothing is changed.
	unchanged(t, "too long", d, func() {
		is(t, "too long", r.Update(long(n+1, 2000), ""), api.ErrLong)
		has(t, "too long", r, f, x)
	})
	var all []names.Update
	for _, ref := range x.Refs {
		all = append(all, names.Update{Name: ref.Name, Old: ref.ID})
	}
	step("none is left", all)
	if len(x.Refs) != 0 {
		t.Errorf("%d are left", len(x.Refs))
	}
}

// The longest table that a frame holds, and one that is longer by a byte.
func TestUpdateLongest(t *testing.T) {
	for over, want := range []api.Errno{api.OK, api.ErrLong} {
		left := func(l []names.Update) int {
			x, err := names.Table{Head: "heads/main"}.Apply(l, "")
			ok(t, "Apply", err)
			return api.MaxBody + over - len(names.Encode(x))
		}
		const each = 44 // bytes of a reference
		l := long(0, 5000)
		l = long(0, len(l)+left(l)/each)
		// The log doesn't have the first ones any more.
		l[0].Name += strings.Repeat("z", left(l))
		if left(l) != 0 {
			t.Fatalf("%d bytes are left", left(l))
		}
		r, f, _ := fresh(t, 2000, 4)
		x := r.Table()
		if want == api.OK {
			x, _ = x.Apply(l, "")
		}
		is(t, fmt.Sprintf("over by %d", over), r.Update(l, ""), want)
		has(t, fmt.Sprintf("over by %d", over), r, f, x)
	}
}

func TestUpdateWithoutSpace(t *testing.T) {
	r, f, d := fresh(t, 20, 4) // 9 data units
	ok(t, "Write", f.Write("other", strings.Repeat("x", 7*512)))
	for i := 0; ; i++ {
		x := r.Table()
		before := text(t, f)
		l := long(i, 1)
		if len(before)+len(change(l, "")) <= 2*512 {
			is(t, "Update", r.Update(l, ""), api.OK)
			continue
		}
		unchanged(t, "no unit", d, func() {
			is(t, "no unit", r.Update(l, "heads/x"), api.ErrSpace)
			has(t, "no unit", r, f, x)
		})
		ok(t, "Remove", f.Remove("other"))
		is(t, "again", r.Update(l, "heads/x"), api.OK)
		x, _ = x.Apply(l, "heads/x")
		has(t, "again", r, mount(t, d), x)
		break
	}
	// What is written anew needs units beside those that the file has.
	r, f, y := upTo(t, 8180)
	units, _ := f.Free()
	ok(t, "Write", f.Write("other", strings.Repeat("x", (units-3)*512)))
	l := long(70000, 1)
	is(t, "no units to write", r.Update(l, ""), api.ErrSpace)
	has(t, "no units to write", r, f, y)
	ok(t, "Remove", f.Remove("other"))
	is(t, "again", r.Update(l, ""), api.OK)
	y, _ = y.Apply(l, "")
	has(t, "again", r, f, y)
}
