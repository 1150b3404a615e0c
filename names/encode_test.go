package names_test

import (
	"fmt"
	"math/rand"
	"slices"
	"strings"
	"testing"

	"stemma/api"
	"stemma/names"
	"stemma/nums"
)

// P16.4

// text returns the text of a table whose references and log have these fields.
func text(head string, refs, log []string) string {
	return nums.Join(head, nums.Join(refs...), nums.Join(log...))
}

func TestEncode(t *testing.T) {
	a, b := id('a'), id('b')
	for want, x := range map[string]names.Table{
		"\x00\x00\x00":           {},
		"\x0aheads/main\x00\x00": {Head: "heads/main"},
		"\x07heads/x\x29\x07heads/x\x20" + a + "\x2a\x07heads/x\x00\x20" + a: {
			Refs: []names.Ref{{"heads/x", a}}, Head: "heads/x", Log: []names.Update{{"heads/x", "", a}}},
		"\x07heads/x\x51\x07heads/x\x20" + b + "\x06tags/v\x20" + a + "\x73\x07heads/x\x20" + a + "\x20" + b + "\x06tags/v\x20" + a + "\x00": {
			Refs: []names.Ref{{"heads/x", b}, {"tags/v", a}}, Head: "heads/x", Log: []names.Update{{"heads/x", a, b}, {"tags/v", a, ""}}},
	} {
		if s := names.Encode(x); s != want {
			t.Errorf("Encode(%s): %q, want %q", show(x), s, want)
		}
		y, err := names.Decode(want)
		if x.Head == "" {
			if err != api.ErrForm || !same(y, names.Table{}) {
				t.Errorf("Decode of no head: %s, %d", show(y), err)
			}
		} else if err != api.OK || !same(x, y) {
			t.Errorf("Decode(%q): %s, %d", want, show(y), err)
		}
	}
	x := some()
	names.Encode(x)
	if !same(x, some()) {
		t.Error("Encode has changed the table")
	}
}

func TestDecode(t *testing.T) {
	x := some()
	var log []names.Update
	for i := range 256 {
		log = append(log, names.Update{Name: fmt.Sprintf("tags/%d", i%3), Old: "", New: id(byte(i))})
	}
	var many []names.Ref
	for i := range 4000 {
		many = append(many, names.Ref{Name: fmt.Sprintf("heads/%06d", i), ID: id(byte(i))})
	}
	longest := "tags/" + strings.Repeat("z", 59)
	for _, y := range []names.Table{
		x,
		{Head: "heads/a"},
		{Head: "heads/" + strings.Repeat("a", 58)},
		{Refs: x.Refs, Head: "heads/none"},
		{Log: x.Log, Head: x.Head},
		{Refs: x.Refs, Head: x.Head, Log: log},
		{Refs: many, Head: x.Head, Log: log},
		{Refs: []names.Ref{{longest, id(0)}}, Head: x.Head, Log: []names.Update{{longest, id(0), id(0xff)}, {longest, id(0), id(0xff)}}},
	} {
		if z, err := names.Decode(names.Encode(y)); !same(y, z) || err != api.OK {
			t.Errorf("%s: Decode: %s, %d", show(y), show(z), err)
		}
	}
}

// undecoded says which error a Decode must have.
func undecoded(t *testing.T, what, s string, want api.Errno) {
	t.Helper()
	if x, err := names.Decode(s); !same(x, names.Table{}) || err != want {
		t.Errorf("%s: Decode(%.80q): %s, %d, want %d", what, s, show(x), err, want)
	}
}

func TestDecodeErrors(t *testing.T) {
	good := names.Encode(some())
	for i := 1; i < len(good); i++ {
		if x, err := names.Decode(good[:i]); err != api.ErrShort && err != api.ErrForm || !same(x, names.Table{}) {
			t.Errorf("the first %d bytes: %s, %d", i, show(x), err)
		}
	}
	undecoded(t, "a byte less", good[:len(good)-1], api.ErrShort)
	undecoded(t, "nothing", "", api.ErrForm)
	undecoded(t, "one part", nums.Join("heads/a"), api.ErrForm)
	undecoded(t, "two parts", nums.Join("heads/a", ""), api.ErrForm)
	undecoded(t, "four parts", good+"\x00", api.ErrForm)
	undecoded(t, "a wrong length behind", good+"\xff", api.ErrForm)
	undecoded(t, "a length of too many bytes", "\x80\x07heads/a\x00\x00", api.ErrForm)
	undecoded(t, "a long part", nums.Put(api.MaxBody+1)+strings.Repeat("a", api.MaxBody+1)+"\x00\x00", api.ErrLong)
	undecoded(t, "an error ahead of the number of parts", "\x00\x00\x00\x00\x05", api.ErrShort)
	for wrong, want := range map[string]api.Errno{
		"\x05":                    api.ErrShort,
		"\x01a\x02":               api.ErrShort,
		"\xff":                    api.ErrForm,
		"\x01a\x80\x01":           api.ErrForm,
		nums.Put(api.MaxBody + 1): api.ErrLong,
	} {
		undecoded(t, "of the references", nums.Join("heads/a", wrong, ""), want)
		undecoded(t, "of the log", nums.Join("heads/a", "", wrong), want)
		undecoded(t, "of the log, ahead of the head", nums.Join("", "", wrong), want)
		undecoded(t, "of the log, ahead of the references", nums.Join("heads/a", nums.Join("x"), wrong), want)
		undecoded(t, "of the references, ahead of the log", nums.Join("heads/a", wrong, "\x05"), want)
		undecoded(t, "of the references, ahead of the log", nums.Join("heads/a", wrong, "\xff"), want)
		undecoded(t, "beside two parts", nums.Join("heads/a", wrong), api.ErrForm)
		undecoded(t, "beside four parts", nums.Join("heads/a", wrong, "", ""), api.ErrForm)
	}
}

// What is joined as it must be can still be no table.
func TestDecodeNoTable(t *testing.T) {
	a, b := id('a'), id('b')
	for _, head := range []string{"", "a", "heads", "heads/", "heads/A", "tags/a", "heads/a.", "heads/" + strings.Repeat("a", 59)} {
		undecoded(t, "the head "+head, text(head, []string{"heads/a", a}, nil), api.ErrForm)
	}
	for what, fields := range map[string][]string{
		"one field":           {"heads/a"},
		"three fields":        {"heads/a", a, "heads/b"},
		"a wrong name":        {"heads/..", a},
		"no name":             {"", a},
		"a long name":         {"heads/" + strings.Repeat("a", 59), a},
		"the last name":       {"heads/a", a, "tags", a},
		"no ID":               {"heads/a", ""},
		"a short ID":          {"heads/a", a[1:]},
		"a long ID":           {"heads/a", a + "a"},
		"the last ID":         {"heads/a", a, "heads/b", "b"},
		"twice":               {"heads/a", a, "heads/a", a},
		"twice, another":      {"heads/a", a, "heads/a", b},
		"not in order":        {"heads/b", a, "heads/a", b},
		"the last too early":  {"heads/a", a, "heads/c", b, "heads/b", b},
		"tags ahead":          {"tags/a", a, "heads/a", b},
		"by other than bytes": {"heads/a/b", a, "heads/a-b", b},
	} {
		undecoded(t, "references: "+what, text("heads/a", fields, nil), api.ErrForm)
	}
	for what, fields := range map[string][]string{
		"one field":        {"heads/a"},
		"two fields":       {"heads/a", a},
		"four fields":      {"heads/a", a, b, "heads/a"},
		"five fields":      {"heads/a", a, b, "heads/a", a},
		"a wrong name":     {"heads/..", a, b},
		"no name":          {"", a, b},
		"the last name":    {"heads/a", a, b, "tags", a, b},
		"a short Old":      {"heads/a", a[1:], b},
		"a long Old":       {"heads/a", a + "a", b},
		"a short New":      {"heads/a", a, b[1:]},
		"a long New":       {"heads/a", a, b + "b"},
		"the same":         {"heads/a", a, a},
		"nothing, nothing": {"heads/a", "", ""},
		"the last":         {"heads/a", a, b, "heads/a", b, b},
	} {
		undecoded(t, "log: "+what, text("heads/a", nil, fields), api.ErrForm)
	}
	x := some()
	x.Log = chain("", 257)
	undecoded(t, "a log of 257", names.Encode(x), api.ErrForm)
	x.Log = x.Log[1:]
	if y, err := names.Decode(names.Encode(x)); !same(x, y) || err != api.OK {
		t.Errorf("a log of 256: %s, %d", show(y), err)
	}
}

// decode is the chapter's Decode, by the rule of names and by layer 1 alone.
func decode(s string) api.Errno {
	parts, err := nums.Split(s)
	if err != api.OK {
		return err
	}
	if len(parts) != 3 {
		return api.ErrForm
	}
	refs, err := nums.Split(parts[1])
	if err != api.OK {
		return err
	}
	log, err := nums.Split(parts[2])
	if err != api.OK {
		return err
	}
	good := func(name string) bool { return len(name) <= 64 && rule.MatchString(name) }
	if !good(parts[0]) || parts[0][0] != 'h' || len(refs)%2 != 0 || len(log)%3 != 0 || len(log) > 3*256 {
		return api.ErrForm
	}
	for i := 0; i < len(refs); i += 2 {
		if !good(refs[i]) || len(refs[i+1]) != 32 || i > 0 && refs[i-2] >= refs[i] {
			return api.ErrForm
		}
	}
	for i := 0; i < len(log); i += 3 {
		if !good(log[i]) || len(log[i+1])%32+len(log[i+2])%32 != 0 || len(log[i+1]) > 32 || len(log[i+2]) > 32 || log[i+1] == log[i+2] {
			return api.ErrForm
		}
	}
	return api.OK
}

// Of texts that were changed at random, Decode takes those that the chapter says, and each of them is its table's Encode.
func TestDecodeChanged(t *testing.T) {
	good := names.Encode(some())
	outcomes := map[api.Errno]int{}
	for seed := range int64(60000) {
		r := rand.New(rand.NewSource(seed))
		b := []byte(good)
		for range 1 + r.Intn(3) {
			at := r.Intn(len(b))
			switch r.Intn(4) {
			case 0:
				b[at] = byte(r.Intn(256))
			case 1:
				b[at] ^= 1 << r.Intn(8)
			case 2:
				b = slices.Delete(b, at, at+1)
			case 3:
				b = slices.Insert(b, at, byte(r.Intn(256)))
			}
		}
		s := string(b)
		x, err := names.Decode(s)
		outcomes[err]++
		if want := decode(s); err != want {
			t.Fatalf("seed %d: Decode(%q): %d, want %d", seed, s, err, want)
		}
		if err == api.OK && names.Encode(x) != s || err != api.OK && !same(x, names.Table{}) {
			t.Fatalf("seed %d: Decode(%q): %s, %d", seed, s, show(x), err)
		}
	}
	if outcomes[api.OK] < 1000 || outcomes[api.ErrForm] < 1000 || outcomes[api.ErrShort] < 1000 {
		t.Errorf("%v", outcomes)
	}
}
