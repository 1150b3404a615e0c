package object_test

import (
	"crypto/sha256"
	"fmt"
	"math/rand"
	"reflect"
	"slices"
	"strconv"
	"strings"
	"testing"

	"stemma/api"
	"stemma/nums"
	"stemma/object"
)

const maxEncoding = 262208 // MaxBody + 64

// id returns an ID of one letter.
func id(letter string) string { return strings.Repeat(letter, 32) }

// ids returns n distinct IDs.
func ids(n int) []string {
	var l []string
	for i := range n {
		l = append(l, id(string([]byte{byte('A' + i)})))
	}
	return l
}

// tree returns a tree of n entries whose names have size bytes.
func tree(n, size int) object.Object {
	o := object.Object{Kind: object.Tree}
	for i := range n {
		number := strconv.Itoa(10000 + i)
		o.Entries = append(o.Entries, object.Entry{Name: strings.Repeat("n", size-len(number)) + number, ID: id("T")})
	}
	return o
}

// clone returns an object that shares no list with o.
func clone(o object.Object) object.Object {
	o.Entries, o.Parents = slices.Clone(o.Entries), slices.Clone(o.Parents)
	return o
}

// show returns how an object begins.
func show(o object.Object) string {
	s := fmt.Sprintf("%#v", o)
	return s[:min(len(s), 400)]
}

// same reports whether two objects are equal, where an empty list may be nil.
func same(a, b object.Object) bool {
	a, b = clone(a), clone(b)
	for _, o := range []*object.Object{&a, &b} {
		o.Entries, o.Parents = append([]object.Entry{}, o.Entries...), append([]string{}, o.Parents...)
	}
	return reflect.DeepEqual(a, b)
}

// right are objects with their encodings.
func right() map[string]object.Object {
	t, p, q := id("T"), id("P"), id("Q")
	return map[string]object.Object{
		"\x01\x00":               {Kind: 1},
		"\x01\x03abc":            {Kind: 1, Body: "abc"},
		"\x01\x04\x00\xff\x01\n": {Kind: 1, Body: "\x00\xff\x01\n"},
		"\x02":                   {Kind: 2},
		"\x02\x01a\x20" + t:      {Kind: 2, Entries: []object.Entry{{"a", t}}},
		"\x02\x01a\x20" + t + "\x08b.merges\x20" + t: {Kind: 2, Entries: []object.Entry{{"a", t}, {"b.merges", t}}},
		"\x02\x01-\x20" + t + "\x010\x20" + p + "\x01_\x20" + q + "\x01a\x20" + t + "\x02a-\x20" + t + "\x02a.\x20" + t + "\x02ab\x20" + t: {Kind: 2,
			Entries: []object.Entry{{"-", t}, {"0", p}, {"_", q}, {"a", t}, {"a-", t}, {"a.", t}, {"ab", t}}},
		"\x03\x20" + t + "\x00\x00\x00\x01\x00":                                     {Kind: 3, Tree: t},
		"\x03\x20" + t + "\x20" + p + "\x02me\x03why\x01\x07":                       {Kind: 3, Tree: t, Parents: []string{p}, Author: "me", Text: "why", Time: 7},
		"\x03\x20" + t + "\x40" + q + p + "\x00\x01\xff\x02\x80\x80":                {Kind: 3, Tree: t, Parents: []string{q, p}, Text: "\xff", Time: 128},
		"\x03\x20" + t + "\x20" + t + "\x01\x00\x00\x01\x7f":                        {Kind: 3, Tree: t, Parents: []string{t}, Author: "\x00", Time: 127},
		"\x03\x20" + t + "\x00\x00\x00\x06\xf9\x00\x00\x00\x00\x00":                 {Kind: 3, Tree: t, Time: api.MaxNumber},
		"\x03\x20" + t + "\x81\x00" + strings.Join(ids(8), "") + "\x00\x00\x01\x00": {Kind: 3, Tree: t, Parents: ids(8)},
		"\x03\x20" + t + "\x00\x81\x00" + strings.Repeat("a", 256) + "\x90\x00" + strings.Repeat("b", 4096) + "\x01\x00": {Kind: 3, Tree: t,
			Author: strings.Repeat("a", 256), Text: strings.Repeat("b", 4096)},
		"\x04\x20" + t + "\x02v1\x00":         {Kind: 4, Target: t, Name: "v1"},
		"\x04\x20" + t + "\x04a-_.\x02\n\xff": {Kind: 4, Target: t, Name: "a-_.", Text: "\n\xff"},
		"\x04\x20" + t + "\x40" + strings.Repeat("z", 64) + "\x90\x00" + strings.Repeat("b", 4096): {Kind: 4, Target: t,
			Name: strings.Repeat("z", 64), Text: strings.Repeat("b", 4096)},
	}
}

// P11.1

func TestKindNumbers(t *testing.T) {
	kinds := []int{object.Blob, object.Tree, object.Commit, object.Tag}
	if !slices.Equal(kinds, []int{1, 2, 3, 4}) {
		t.Errorf("%v", kinds)
	}
}

func TestGoodBytes(t *testing.T) {
	for b := range 256 {
		c := byte(b)
		inside := c >= 'a' && c <= 'z' || c >= '0' && c <= '9' || c == '-' || c == '_' || c == '.'
		first := inside && c != '.'
		for _, end := range []string{"", "z", "."} {
			if s := string([]byte{c}) + end; object.Good(s) != first {
				t.Errorf("Good(%q): %v", s, !first)
			}
			if s := "a" + string([]byte{c}) + end; object.Good(s) != inside {
				t.Errorf("Good(%q): %v", s, !inside)
			}
		}
	}
}

func TestGoodLengths(t *testing.T) {
	for n := range 200 {
		want := n >= 1 && n <= 64
		if object.Good(strings.Repeat("a", n)) != want {
			t.Errorf("Good of %d bytes: %v", n, !want)
		}
	}
}

func TestEncode(t *testing.T) {
	for want, o := range right() {
		before := clone(o)
		if s, err := object.Encode(o); s != want || err != api.OK {
			t.Errorf("Encode(%s): %.80q, %d, want %.80q", show(o), s, err, want)
		}
		if !same(o, before) {
			t.Errorf("Encode has changed %s", show(before))
		}
		o.Entries, o.Parents = append([]object.Entry{}, o.Entries...), append([]string{}, o.Parents...)
		if s, err := object.Encode(o); s != want || err != api.OK {
			t.Errorf("with lists that are empty, not nil: Encode(%s): %.80q, %d", show(o), s, err)
		}
	}
}

func TestEncodeKinds(t *testing.T) {
	for _, kind := range []int{0, -1, 5, 6, 255, 256, 257, 258, 1 << 32, 1<<32 + 1, -1 << 63, 1<<63 - 1} {
		for _, o := range right() {
			o.Kind = kind
			checkNotEncoded(t, "kind "+strconv.Itoa(kind), o, api.ErrKind)
		}
		checkNotEncoded(t, "kind "+strconv.Itoa(kind), object.Object{Kind: kind, Body: strings.Repeat("a", 300000)}, api.ErrKind)
	}
}

func checkNotEncoded(t *testing.T, name string, o object.Object, want api.Errno) {
	t.Helper()
	if s, err := object.Encode(o); s != "" || err != want {
		t.Errorf("%s: %d bytes, %d, want %d", name, len(s), err, want)
	}
}

// others are changes of a field that no object of some kinds has.
var others = []struct {
	name  string
	kinds []int // that have the field
	set   func(o *object.Object)
}{
	{"Body", []int{1}, func(o *object.Object) { o.Body = "x" }},
	{"Entries", []int{2}, func(o *object.Object) { o.Entries = []object.Entry{{"a", id("T")}} }},
	{"an Entry of zeros", nil, func(o *object.Object) { o.Entries = make([]object.Entry, 1) }},
	{"Tree", []int{3}, func(o *object.Object) { o.Tree = id("T") }},
	{"Parents", []int{3}, func(o *object.Object) { o.Parents = ids(1) }},
	{"an empty Parent", nil, func(o *object.Object) { o.Parents = []string{""} }},
	{"Author", []int{3}, func(o *object.Object) { o.Author = "x" }},
	{"Text", []int{3, 4}, func(o *object.Object) { o.Text = "x" }},
	{"Time", []int{3}, func(o *object.Object) { o.Time = 1 }},
	{"a negative Time", nil, func(o *object.Object) { o.Time = -1 }},
	{"Target", []int{4}, func(o *object.Object) { o.Target = id("T") }},
	{"Name", []int{4}, func(o *object.Object) { o.Name = "x" }},
}

// TestEncodeOtherFields: a field that is not mentioned for a kind is zero.
func TestEncodeOtherFields(t *testing.T) {
	for _, o := range right() {
		for _, x := range others {
			o := clone(o)
			x.set(&o)
			if !slices.Contains(x.kinds, o.Kind) {
				checkNotEncoded(t, "kind "+strconv.Itoa(o.Kind)+" with "+x.name, o, api.ErrArg)
			} else if _, err := object.Encode(o); err != api.OK {
				t.Errorf("kind %d with %s: %d", o.Kind, x.name, err)
			}
		}
	}
}

func TestEncodeBlobs(t *testing.T) {
	full := strings.Repeat("\x00", api.MaxBody)
	if s, err := object.Encode(object.Object{Kind: 1, Body: full}); s != "\x01\xc4\x00\x00"+full || err != api.OK {
		t.Errorf("a full Body: %d bytes, %d", len(s), err)
	}
	for _, n := range []int{1, 60, 61, 64, 65, api.MaxBody} {
		checkNotEncoded(t, "a Body of "+strconv.Itoa(n)+" bytes too many", object.Object{Kind: 1, Body: full + full[:n]}, api.ErrArg)
	}
}

func TestEncodeTrees(t *testing.T) {
	a, b := id("A"), id("B")
	for name, l := range map[string][]object.Entry{
		"no name":             {{"", a}},
		"a point first":       {{".a", a}},
		"an upper-case name":  {{"A", a}},
		"a name with a path":  {{"a/b", a}},
		"a long name":         {{strings.Repeat("a", 65), a}},
		"a wrong second name": {{"a", a}, {"b c", b}},
		"no ID":               {{"a", ""}},
		"a short ID":          {{"a", a[1:]}},
		"a long ID":           {{"a", a + "A"}},
		"two IDs":             {{"a", a + b}},
		"a wrong second ID":   {{"a", a}, {"b", b[1:]}},
		"a wrong first ID":    {{"a", a[1:]}, {"b", b}},
		"IDs of 64 bytes":     {{"a", a[:31]}, {"b", b + "B"}},
		"a name twice":        {{"a", a}, {"a", b}},
		"an entry twice":      {{"a", a}, {"a", a}},
		"a wrong order":       {{"b", a}, {"a", b}},
		"a wrong last place":  {{"a", a}, {"c", a}, {"b", a}},
		"a prefix behind":     {{"ab", a}, {"a", a}},
		"bytes out of order":  {{"a0", a}, {"a-", a}},
		"numbers in order":    {{"9", a}, {"10", a}},
		"zeros":               {{}},
	} {
		checkNotEncoded(t, name, object.Object{Kind: 2, Entries: l}, api.ErrArg)
	}
}

// TestEncodeTreeSizes: each entry of these trees is valid, and takes 40 or 64 bytes.
func TestEncodeTreeSizes(t *testing.T) {
	for _, c := range []struct {
		n, size int
		err     api.Errno
	}{
		{4096, 6, api.OK},
		{4097, 6, api.ErrArg},
		{4096, 30, api.OK},
		{4097, 30, api.ErrArg},
		{4096, 31, api.ErrLong},
		{4097, 31, api.ErrArg},
		{4096, 64, api.ErrLong},
		{5000, 64, api.ErrArg},
	} {
		o := tree(c.n, c.size)
		s, err := object.Encode(o)
		if err != c.err || (s == "") != (err != api.OK) {
			t.Errorf("%d entries with names of %d bytes: %d bytes, %d, want %d", c.n, c.size, len(s), err, c.err)
		}
	}
	// 4096 entries of 64 bytes, and 63 bytes more in longer names: with the kind, it is full.
	o := tree(4096, 30)
	for i := range 63 {
		o.Entries[i].Name = "a" + o.Entries[i].Name
	}
	if s, err := object.Encode(o); len(s) != maxEncoding || err != api.OK {
		t.Errorf("a full tree: %d bytes, %d", len(s), err)
	}
	o.Entries[63].Name = "a" + o.Entries[63].Name
	checkNotEncoded(t, "a byte more", o, api.ErrLong)
	o.Entries[64].ID = ""
	checkNotEncoded(t, "a wrong ID in a long tree", o, api.ErrArg)
}

func TestEncodeCommits(t *testing.T) {
	tr := id("T")
	for name, o := range map[string]object.Object{
		"zeros":             {},
		"a short Tree":      {Tree: tr[1:]},
		"a long Tree":       {Tree: tr + "T"},
		"a Tree in digits":  {Tree: tr + tr},
		"an empty Parent":   {Tree: tr, Parents: []string{""}},
		"a second of none":  {Tree: tr, Parents: []string{tr, ""}},
		"a short Parent":    {Tree: tr, Parents: []string{tr[1:]}},
		"a long Parent":     {Tree: tr, Parents: []string{tr + "T"}},
		"two as one":        {Tree: tr, Parents: []string{id("A") + id("B")}},
		"one as two":        {Tree: tr, Parents: []string{tr[:16], tr[16:]}},
		"32 as one":         {Tree: tr, Parents: strings.Split(tr, "")},
		"64 in two":         {Tree: tr, Parents: []string{id("A") + "B", id("B")[1:]}},
		"a Parent twice":    {Tree: tr, Parents: []string{id("A"), id("A")}},
		"twice, one within": {Tree: tr, Parents: []string{id("A"), id("B"), id("A")}},
		"nine Parents":      {Tree: tr, Parents: ids(9)},
		"twenty Parents":    {Tree: tr, Parents: ids(20)},
		"a long Author":     {Tree: tr, Author: strings.Repeat("a", 257)},
		"a long Text":       {Tree: tr, Text: strings.Repeat("a", 4097)},
		"a longer Text":     {Tree: tr, Text: strings.Repeat("a", 300000)},
		"a Time below 0":    {Tree: tr, Time: -1},
		"the least Time":    {Tree: tr, Time: -1 << 63},
		"a great Time":      {Tree: tr, Time: api.MaxNumber + 1},
		"the greatest Time": {Tree: tr, Time: 1<<63 - 1},
	} {
		o.Kind = object.Commit
		checkNotEncoded(t, name, o, api.ErrArg)
	}
}

func TestEncodeTags(t *testing.T) {
	target := id("T")
	for name, o := range map[string]object.Object{
		"zeros":              {},
		"no Target":          {Name: "a"},
		"a short Target":     {Name: "a", Target: target[1:]},
		"a long Target":      {Name: "a", Target: target + "T"},
		"no Name":            {Target: target},
		"a point first":      {Target: target, Name: ".a"},
		"a Name with a path": {Target: target, Name: "tags/a"},
		"an upper-case Name": {Target: target, Name: "V1"},
		"a long Name":        {Target: target, Name: strings.Repeat("a", 65)},
		"a long Text":        {Target: target, Name: "a", Text: strings.Repeat("a", 4097)},
	} {
		o.Kind = object.Tag
		checkNotEncoded(t, name, o, api.ErrArg)
	}
}

// P11.2

func TestDecode(t *testing.T) {
	for s, want := range right() {
		o, err := object.Decode(s)
		if !same(o, want) || err != api.OK {
			t.Errorf("Decode(%.80q): %s, %d, want %s", s, show(o), err, show(want))
		}
		if back, err := object.Encode(o); back != s || err != api.OK {
			t.Errorf("Encode of what Decode(%.80q) returns: %.80q, %d", s, back, err)
		}
	}
}

func TestDecodeFull(t *testing.T) {
	full := tree(4096, 30)
	for i := range 63 {
		full.Entries[i].Name = "a" + full.Entries[i].Name
	}
	for name, o := range map[string]object.Object{
		"a full blob":              {Kind: 1, Body: strings.Repeat("b", api.MaxBody)},
		"a tree of 4096 entries":   tree(4096, 6),
		"a tree of MaxBody and 64": full,
	} {
		s, err := object.Encode(o)
		if err != api.OK {
			t.Fatalf("%s: Encode: %d", name, err)
		}
		if back, err := object.Decode(s); !same(back, o) || err != api.OK {
			t.Errorf("%s: Decode: %d", name, err)
		}
	}
}

func checkNotDecoded(t *testing.T, s string, want api.Errno) {
	t.Helper()
	o, err := object.Decode(s)
	if !same(o, object.Object{}) || err != want {
		t.Errorf("Decode(%.80q) of %d bytes: %s, %d, want %d", s, len(s), show(o), err, want)
	}
}

func TestDecodeErrors(t *testing.T) {
	tr := id("T")
	for s, want := range map[string]api.Errno{
		"":                                    api.ErrShort,
		"\x00":                                api.ErrKind,
		"\x05":                                api.ErrKind,
		"\x80\x00":                            api.ErrKind,
		"\xff\x00":                            api.ErrKind,
		"1\x00":                               api.ErrKind,
		"\x00" + strings.Repeat("a", 300000):  api.ErrKind,
		"\x05\x80":                            api.ErrKind,
		"\x01\x80":                            api.ErrShort,
		"\x01\x01":                            api.ErrShort,
		"\x01\x02a":                           api.ErrShort,
		"\x01\xfc":                            api.ErrForm,
		"\x01\x80\x01a":                       api.ErrForm,
		"\x01" + nums.Put(api.MaxBody+1):      api.ErrLong,
		"\x02\x01a\x20" + tr + "\x01":         api.ErrShort,
		"\x02\x00\xfc":                        api.ErrForm,
		"\x01\x00\x00" + nums.Put(1<<20) + "": api.ErrLong,
		"\x03\x05\x00":                        api.ErrShort, // the texts go before what they say
		"\x04\x00\x00\x00\x00\x02a":           api.ErrShort,
	} {
		checkNotDecoded(t, s, want)
	}
	for kind := 5; kind < 256; kind++ {
		checkNotDecoded(t, string([]byte{byte(kind)})+"\x00", api.ErrKind)
	}
}

// TestDecodeSizes: a text that is too long is so ahead of what is in it.
func TestDecodeSizes(t *testing.T) {
	for kind := byte(1); kind <= 4; kind++ {
		head := string([]byte{kind})
		checkNotDecoded(t, head+strings.Repeat("\xfc", maxEncoding-1), api.ErrForm)
		checkNotDecoded(t, head+strings.Repeat("\xfc", maxEncoding), api.ErrLong)
		checkNotDecoded(t, head+strings.Repeat("\x80", maxEncoding), api.ErrLong)
		checkNotDecoded(t, head+strings.Repeat("\x00", maxEncoding-1), api.ErrForm)
		checkNotDecoded(t, head+strings.Repeat("\x00", maxEncoding), api.ErrLong)
	}
	long := tree(4096, 31)
	var texts []string
	for _, e := range long.Entries {
		texts = append(texts, e.Name, e.ID)
	}
	checkNotDecoded(t, "\x02"+nums.Join(texts...), api.ErrLong)
	many := tree(4097, 6)
	texts = nil
	for _, e := range many.Entries {
		texts = append(texts, e.Name, e.ID)
	}
	checkNotDecoded(t, "\x02"+nums.Join(texts...), api.ErrForm)
}

// TestDecodeForms: texts that are not those of an object.
func TestDecodeForms(t *testing.T) {
	tr, a, b := id("T"), id("A"), id("B")
	now := nums.Put(7)
	for kind, forms := range map[string][][]string{
		"\x01": {{}, {"", ""}, {"a", "b"}, {"a", ""}, {tr, "", "", "", now}},
		"\x02": {{""}, {"a"}, {"", ""}, {"a", ""}, {"a", tr, ""}, {"a", tr, "b"}, {"a", tr, tr}, {"", tr}, {tr, "a"},
			{".a", tr}, {"A", tr}, {"a/b", tr}, {"a", tr[1:]}, {"a", tr + "T"}, {"a", tr + tr}, {strings.Repeat("a", 65), tr},
			{"a", tr, "a", a}, {"b", tr, "a", a}, {"a", tr, "c", tr, "b", tr}, {"ab", tr, "a", tr}, {"a", tr, "b", ""}, {"a", "", "b", tr}},
		"\x03": {{}, {""}, {tr}, {tr, "", "", ""}, {tr, "", "", "", now, ""}, {tr, "", "", "", now, now}, {tr, "", "", now},
			{"", "", "", "", now}, {tr[1:], "", "", "", now}, {tr + "T", "", "", "", now}, {tr + tr, "", "", "", now},
			{tr, a[1:], "", "", now}, {tr, a + "A", "", "", now}, {tr, a + b[1:], "", "", now}, {tr, "A", "", "", now},
			{tr, a + a, "", "", now}, {tr, a + b + a, "", "", now}, {tr, b + a + a, "", "", now},
			{tr, strings.Join(ids(9), ""), "", "", now}, {tr, strings.Join(ids(20), ""), "", "", now},
			{tr, "", strings.Repeat("a", 257), "", now}, {tr, "", "", strings.Repeat("a", 4097), now},
			{tr, "", "", "", ""}, {tr, "", "", "", "\x07\x07"}, {tr, "", "", "", now + "a"}, {tr, "", "", "", "\x80"},
			{tr, "", "", "", "\x80\x07"}, {tr, "", "", "", "\xfc"}, {tr, "", "", "", "\xff\xff\xff"},
			{tr, "", "", "", "\xf9\x00\x00\x00\x00\x01"}, {tr, a, b, "", "", now}, {tr, "", "", "", "\x80\x80\x00"}},
		"\x04": {{}, {tr}, {tr, "a"}, {tr, "a", "", ""}, {tr, "a", "", "b"}, {"", "a", ""}, {tr[1:], "a", ""}, {tr + "T", "a", ""}, {tr + tr, "a", ""},
			{tr, "", ""}, {tr, ".a", ""}, {tr, "A", ""}, {tr, "a/b", ""}, {tr, "a b", ""}, {tr, strings.Repeat("a", 65), ""},
			{tr, "a", strings.Repeat("a", 4097)}, {"a", tr, ""}},
	} {
		for _, texts := range forms {
			checkNotDecoded(t, kind+nums.Join(texts...), api.ErrForm)
		}
	}
}

// TestDecodeCut: of an encoding no part that begins it, but a tree of fewer entries, is one, and nothing may follow it but further entries.
func TestDecodeCut(t *testing.T) {
	for s, o := range right() {
		if o.Kind == object.Tree {
			continue
		}
		for n := range len(s) {
			if _, err := object.Decode(s[:n]); err == api.OK {
				t.Errorf("%d bytes of %.80q are an object", n, s)
			}
		}
		for _, end := range []string{"\x00", "\x01a", "\x80", "a"} {
			if _, err := object.Decode(s + end); err == api.OK {
				t.Errorf("%.80q and %q is an object", s, end)
			}
		}
	}
}

// TestDecodeAnything: what is decoded is encoded as it was, whatever was done to it.
func TestDecodeAnything(t *testing.T) {
	r := rand.New(rand.NewSource(12))
	var all []string
	for s := range right() {
		if len(s) < 400 {
			all = append(all, s)
		}
	}
	slices.Sort(all)
	decoded := 0
	for range 300000 {
		s := changed(r, all[r.Intn(len(all))])
		o, err := object.Decode(s)
		if err != api.OK {
			if !same(o, object.Object{}) {
				t.Fatalf("Decode(%q): %s beside %d", s, show(o), err)
			}
			continue
		}
		decoded++
		if back, err := object.Encode(o); back != s || err != api.OK {
			t.Fatalf("Decode(%q): %s, encoded as %q, %d", s, show(o), back, err)
		}
	}
	if decoded < 1000 {
		t.Errorf("only %d were objects", decoded)
	}
}

// changed returns s with some bytes changed, left out or put in.
func changed(r *rand.Rand, s string) string {
	b := []byte(s)
	for range r.Intn(4) {
		i := r.Intn(len(b) + 1)
		switch {
		case i < len(b) && r.Intn(2) == 0:
			b[i] = byte(r.Intn(256))
		case i < len(b) && r.Intn(2) == 0:
			b[i] += byte(r.Intn(3)) - 1
		case i < len(b) && r.Intn(2) == 0:
			b = slices.Delete(b, i, i+1)
		default:
			b = slices.Insert(b, i, byte(r.Intn(5)))
		}
	}
	return string(b)
}

// TestEncodeAnything: what is encoded is decoded as it was, and each object that is as described is encoded.
func TestEncodeAnything(t *testing.T) {
	r := rand.New(rand.NewSource(13))
	for range 100000 {
		o := random(r)
		s, err := object.Encode(o)
		if want := wanted(o); err != want || (s == "") != (want != api.OK) {
			t.Fatalf("Encode(%s): %.80q, %d, want %d", show(o), s, err, want)
		}
		if back, e := object.Decode(s); err == api.OK && (!same(back, o) || e != api.OK) {
			t.Fatalf("%s is decoded as %s, %d", show(o), show(back), e)
		}
	}
}

// pick returns one of l, which is the first one mostly.
func pick[T any](r *rand.Rand, l ...T) T {
	if r.Intn(8) != 0 {
		return l[0]
	}
	return l[r.Intn(len(l))]
}

// random returns an object which is nearly one.
func random(r *rand.Rand) object.Object {
	o := object.Object{Kind: r.Intn(4) + 1}
	commit, tag := o.Kind == object.Commit, o.Kind == object.Tag
	id := func(has bool) string {
		if !has {
			return pick(r, "", "", "", "A")
		}
		return pick(r, id("A"), id("B"), "", id("A")+"A", id("A")[1:])
	}
	text := func(has bool) string {
		if !has {
			return pick(r, "", "", "", "A")
		}
		return pick(r, "a", "", "\x00", strings.Repeat("a", 256), strings.Repeat("a", 257), strings.Repeat("a", 4096), strings.Repeat("a", 4097))
	}
	o.Body, o.Author, o.Text = text(o.Kind == object.Blob), text(commit), text(commit || tag)
	o.Tree, o.Target = id(commit), id(tag)
	o.Name = pick(r, "", "", "a.b", ".a")
	if tag {
		o.Name = pick(r, "a", "0", "-", "", ".a", "a b", strings.Repeat("a", 64), strings.Repeat("a", 65))
	}
	if commit || r.Intn(20) == 0 {
		o.Time = pick(r, 0, 1, 1000, -1, api.MaxNumber, api.MaxNumber+1)
		for _, p := range slices.Clone(ids(10))[:r.Intn(5)] {
			o.Parents = append(o.Parents, pick(r, p, ids(1)[0], "", p+"A", p[1:]))
		}
	}
	if o.Kind == object.Tree || r.Intn(20) == 0 {
		for i := range r.Intn(4) {
			o.Entries = append(o.Entries, object.Entry{Name: pick(r, "n"+strconv.Itoa(i), "n0", "", ".n", "N"), ID: id(true)})
		}
	}
	return o
}

// wanted returns what Encode answers for a small object of a right kind, as the chapter describes it.
func wanted(o object.Object) api.Errno {
	rest := o
	ok := true
	switch o.Kind {
	case object.Blob:
		rest.Body = ""
	case object.Tree:
		rest.Entries = nil
		for i, e := range o.Entries {
			ok = ok && object.Good(e.Name) && len(e.ID) == 32 && (i == 0 || o.Entries[i-1].Name < e.Name)
		}
	case object.Commit:
		rest.Tree, rest.Parents, rest.Author, rest.Text, rest.Time = "", nil, "", "", 0
		ok = len(o.Tree) == 32 && len(o.Author) <= 256 && len(o.Text) <= 4096 && o.Time >= 0 && o.Time <= api.MaxNumber
		for i, p := range o.Parents {
			ok = ok && len(p) == 32 && !slices.Contains(o.Parents[:i], p)
		}
	case object.Tag:
		rest.Target, rest.Name, rest.Text = "", "", ""
		ok = len(o.Target) == 32 && object.Good(o.Name) && len(o.Text) <= 4096
	}
	if !ok || !same(rest, object.Object{Kind: o.Kind}) {
		return api.ErrArg
	}
	return api.OK
}

func TestDecodeReturnsNewLists(t *testing.T) {
	for s := range right() {
		o, _ := object.Decode(s)
		for i := range o.Entries {
			o.Entries[i] = object.Entry{}
		}
		for i := range o.Parents {
			o.Parents[i] = ""
		}
		again, err := object.Decode(s)
		if back, _ := object.Encode(again); back != s || err != api.OK {
			t.Errorf("Decode(%.80q) has changed", s)
		}
	}
}

// P11.3

func TestID(t *testing.T) {
	for _, s := range []string{"", "\x01\x00", "abc", strings.Repeat("a", 1000000)} {
		want := sha256.Sum256([]byte(s))
		if object.ID(s) != string(want[:]) {
			t.Errorf("ID of %d bytes: % x", len(s), object.ID(s))
		}
	}
}

func TestLinks(t *testing.T) {
	tr, a, b := id("T"), id("A"), id("B")
	for _, c := range []struct {
		name string
		o    object.Object
		want []string
	}{
		{"a blob", object.Object{Kind: 1, Body: tr}, nil},
		{"an empty tree", object.Object{Kind: 2}, nil},
		{"a tree", object.Object{Kind: 2, Entries: []object.Entry{{"a", b}, {"b", a}}}, []string{b, a}},
		{"a tree that has an ID twice", object.Object{Kind: 2, Entries: []object.Entry{{"a", b}, {"b", a}, {"c", b}}}, []string{b, a, b}},
		{"a first commit", object.Object{Kind: 3, Tree: tr, Author: a, Text: b}, []string{tr}},
		{"a commit", object.Object{Kind: 3, Tree: tr, Parents: []string{b, a}}, []string{tr, b, a}},
		{"a commit of eight parents", object.Object{Kind: 3, Tree: tr, Parents: ids(8)}, append([]string{tr}, ids(8)...)},
		{"a tag", object.Object{Kind: 4, Target: tr, Name: "a", Text: a}, []string{tr}},
		{"nothing", object.Object{}, nil},
		{"another kind", object.Object{Kind: 5, Tree: tr, Target: tr, Parents: []string{a}, Entries: []object.Entry{{"a", b}}}, nil},
		{"a negative kind", object.Object{Kind: -1, Tree: tr, Target: tr}, nil},
		{"a kind of more than a byte", object.Object{Kind: 259, Tree: tr, Target: tr}, nil},
		{"a blob with all fields", object.Object{Kind: 1, Tree: tr, Target: tr, Parents: []string{a}, Entries: []object.Entry{{"a", b}}}, nil},
		{"a tree with all fields", object.Object{Kind: 2, Tree: tr, Target: tr, Parents: []string{a}, Entries: []object.Entry{{"a", b}}}, []string{b}},
		{"a commit with all fields", object.Object{Kind: 3, Tree: tr, Target: b, Parents: []string{a}, Entries: []object.Entry{{"a", b}}}, []string{tr, a}},
		{"a tag with all fields", object.Object{Kind: 4, Tree: a, Target: tr, Parents: []string{a}, Entries: []object.Entry{{"a", b}}}, []string{tr}},
	} {
		before := clone(c.o)
		if l := object.Links(c.o); !slices.Equal(l, c.want) || !same(c.o, before) {
			t.Errorf("%s: %q, want %q", c.name, l, c.want)
		}
	}
}

// TestLinksAreNew: the list shares no memory with the object, nor with its spare capacity.
func TestLinksAreNew(t *testing.T) {
	spare := append(ids(2), "spare")
	o := object.Object{Kind: object.Commit, Tree: id("T"), Parents: spare[:2]}
	l := object.Links(o)
	for i := range l {
		l[i] = "changed"
	}
	_ = append(l, "more")
	if !slices.Equal(spare, append(ids(2), "spare")) {
		t.Errorf("%q", spare)
	}
	if again := object.Links(o); !slices.Equal(again, append([]string{id("T")}, ids(2)...)) {
		t.Errorf("%q", again)
	}
}
