package names_test

import (
	"fmt"
	"maps"
	"math/rand"
	"slices"
	"strings"
	"testing"

	"stemma/api"
	"stemma/names"
)

// P16.2

// refused says which error an Apply must have.
func refused(t *testing.T, what string, x names.Table, l []names.Update, head string, want api.Errno) {
	t.Helper()
	before := names.Table{Refs: slices.Clone(x.Refs), Head: x.Head, Log: slices.Clone(x.Log)}
	y, err := x.Apply(l, head)
	if !same(y, names.Table{}) || err != want {
		t.Errorf("%s: Apply: %s, %d, want %d", what, show(y), err, want)
	}
	if !same(x, before) {
		t.Errorf("%s: the table has changed", what)
	}
}

// applied says that an Apply must return a table.
func applied(t *testing.T, what string, x names.Table, l []names.Update, head string, want names.Table) {
	t.Helper()
	if y, err := x.Apply(l, head); !same(y, want) || err != api.OK {
		t.Errorf("%s: Apply: %s, %d, want %s", what, show(y), err, show(want))
	}
}

func TestApply(t *testing.T) {
	first := []names.Update{{"heads/main", "", id(1)}}
	one := names.Table{Refs: []names.Ref{{"heads/main", id(1)}}, Head: "heads/main", Log: first}
	applied(t, "the example", names.Table{}, first, "heads/main", one)
	applied(t, "the head is kept", names.Table{Head: "heads/main"}, first, "", one)
	applied(t, "no head at all", names.Table{}, first, "", names.Table{Refs: one.Refs, Log: first})

	x := some()
	y := some()
	y.Head = "heads/none"
	applied(t, "another head, which is no reference", x, nil, "heads/none", y)
	applied(t, "the same head", x, []names.Update{}, "heads/main", x)

	l := []names.Update{{"tags/v1", id(4), ""}, {"tags/z", "", id(6)}, {"heads/a", id(1), id(2)}, {"heads/0", "", id(2)}, {"heads/main", id(1), ""}, {"heads/ab", "", id(7)}}
	applied(t, "several", x, l, "heads/ab", names.Table{
		Refs: []names.Ref{{"heads/0", id(2)}, {"heads/a", id(2)}, {"heads/a-b", id(2)}, {"heads/a/b", id(3)}, {"heads/ab", id(7)}, {"tags/z", id(6)}},
		Head: "heads/ab",
		Log:  slices.Concat(x.Log, l),
	})
	var all []names.Update
	for _, r := range x.Refs {
		all = append(all, names.Update{Name: r.Name, Old: r.ID})
	}
	slices.Reverse(all)
	applied(t, "none is left", x, all, "", names.Table{Head: "heads/main", Log: slices.Concat(x.Log, all)})
	if !same(x, some()) {
		t.Error("the table has changed")
	}
}

func TestApplyErrors(t *testing.T) {
	x := some()
	create := names.Update{Name: "heads/new", New: id(5)}
	refused(t, "nothing", x, nil, "", api.ErrArg)
	refused(t, "nothing", x, []names.Update{}, "", api.ErrArg)
	refused(t, "nothing for nothing", names.Table{}, nil, "", api.ErrArg)
	for _, name := range []string{"", "heads", "heads/", "heads/..", "heads/A", "tag/a", "heads/" + strings.Repeat("a", 59)} {
		u := names.Update{Name: name, New: id(5)}
		refused(t, "the name "+name, x, []names.Update{u}, "", api.ErrName)
		refused(t, "the last name "+name, x, []names.Update{create, u}, "heads/main", api.ErrName)
		refused(t, "the first name "+name, x, []names.Update{u, create}, "", api.ErrName)
	}
	for _, head := range []string{"tags/v1", "tags/a", "heads", "heads/", "main", "heads/a.", "heads/" + strings.Repeat("a", 59)} {
		refused(t, "the head "+head, x, nil, head, api.ErrName)
		refused(t, "the head "+head, x, []names.Update{create}, head, api.ErrName)
	}
	for what, l := range map[string][]names.Update{
		"twice":             {create, create},
		"twice, apart":      {create, {"heads/main", id(1), id(2)}, {"heads/new", id(5), id(6)}},
		"removed and made":  {{"heads/main", id(1), ""}, {"heads/main", "", id(2)}},
		"a short Old":       {{"heads/main", id(1)[1:], id(2)}},
		"a long Old":        {{"heads/main", id(1) + "\x01", id(2)}},
		"an Old of a byte":  {{"heads/main", "\x01", id(2)}},
		"a short New":       {{"heads/main", id(1), id(2)[1:]}},
		"a long New":        {{"heads/main", id(1), id(2) + "\x02"}},
		"a New in digits":   {{"heads/main", id(1), strings.Repeat("0", 64)}},
		"both short":        {{"heads/main", "1", "2"}},
		"the same":          {{"heads/main", id(1), id(1)}},
		"nothing, nothing":  {{"heads/new", "", ""}},
		"the last":          {create, {"heads/main", id(1), id(1)}},
		"the first":         {{"heads/main", id(1), id(1)}, create},
		"nothing, existing": {{"heads/main", "", ""}},
	} {
		refused(t, what, x, l, "", api.ErrArg)
		refused(t, what, x, l, "heads/main", api.ErrArg)
	}
	for what, l := range map[string][]names.Update{
		"there is one":        {{"heads/main", "", id(2)}},
		"there is none":       {{"heads/new", id(1), id(2)}},
		"none to be removed":  {{"heads/new", id(1), ""}},
		"another":             {{"heads/main", id(2), id(3)}},
		"another, removed":    {{"heads/main", id(2), ""}},
		"it is the New":       {{"heads/main", id(2), id(1)}},
		"the last":            {create, {"heads/a", id(1), id(2)}, {"heads/main", id(2), id(3)}},
		"the first":           {{"heads/main", id(2), id(3)}, create},
		"the log's, not its":  {{"heads/main", id(8), id(1)}},
		"in the log, removed": {{"heads/gone", id(9), id(1)}},
	} {
		refused(t, what, x, l, "", api.ErrStale)
		refused(t, what, x, l, "heads/a", api.ErrStale)
	}
}

// Of several errors the one that the chapter mentions first is returned, wherever it stands.
func TestApplyOrderOfErrors(t *testing.T) {
	x := some()
	type fault struct {
		u   names.Update
		err api.Errno
	}
	faults := []fault{
		{names.Update{Name: "heads/..", Old: "short", New: id(1)}, api.ErrName},
		{names.Update{Name: "", Old: "", New: ""}, api.ErrName},
		{names.Update{Name: "heads/a", Old: "short", New: id(5)}, api.ErrArg},
		{names.Update{Name: "heads/main", Old: id(7), New: id(7)}, api.ErrArg},
		{names.Update{Name: "heads/a/b", Old: id(7), New: "short"}, api.ErrArg},
		{names.Update{Name: "heads/x", Old: id(7), New: id(8)}, api.ErrStale},
		{names.Update{Name: "heads/a-b", Old: id(7), New: id(8)}, api.ErrStale},
		{names.Update{Name: "tags/ok", New: id(8)}, api.OK},
	}
	rank := map[api.Errno]int{api.ErrName: 3, api.ErrArg: 2, api.ErrStale: 1}
	for _, a := range faults {
		for _, b := range faults {
			for _, head := range []string{"", "heads/a", "tags/a", "x"} {
				want := a.err
				if rank[b.err] > rank[want] {
					want = b.err
				}
				if a.u == b.u && want != api.ErrName {
					want = api.ErrArg // the name occurs twice
				}
				if head == "tags/a" || head == "x" {
					want = api.ErrName
				}
				if want != api.OK {
					refused(t, fmt.Sprintf("%q, %q, %q", a.u, b.u, head), x, []names.Update{a.u, b.u}, head, want)
				}
			}
		}
	}
}

// chain returns n updates of one name, the first of which is from old.
func chain(old string, n int) []names.Update {
	var l []names.Update
	for i := range n {
		u := names.Update{Name: "heads/main", Old: old, New: fmt.Sprintf("%032d", i)}
		l = append(l, u)
		old = u.New
	}
	return l
}

func TestApplyLog(t *testing.T) {
	x := names.Table{Head: "heads/main"}
	all := chain("", 600)
	for i, u := range all {
		var err api.Errno
		if x, err = x.Apply([]names.Update{u}, ""); err != api.OK {
			t.Fatal(err)
		}
		if want := all[max(0, i+1-256) : i+1]; !slices.Equal(x.Log, want) {
			t.Fatalf("after %d updates: a log of %d", i+1, len(x.Log))
		}
	}
	y, err := x.Apply(nil, "heads/other")
	if err != api.OK || !slices.Equal(y.Log, all[600-256:]) {
		t.Errorf("another head: %d, a log of %d", err, len(y.Log))
	}
	for _, n := range []int{1, 2, 255, 256, 257, 258, 600} {
		var l []names.Update
		for i := range n {
			l = append(l, names.Update{Name: fmt.Sprintf("tags/%04d", n-i), New: id(byte(i))})
		}
		for _, from := range []names.Table{{}, {Head: "heads/main", Log: all[:3]}, {Head: "heads/main", Log: all[:255]}, {Head: "heads/main", Log: all[:256]}} {
			y, err := from.Apply(l, "heads/main")
			want := slices.Concat(from.Log, l)
			if err != api.OK || len(y.Refs) != n || !slices.Equal(y.Log, want[max(0, len(want)-256):]) {
				t.Errorf("%d updates behind %d: %d, %d references, a log of %d", n, len(from.Log), err, len(y.Refs), len(y.Log))
			}
			if !slices.IsSortedFunc(y.Refs, func(a, b names.Ref) int { return strings.Compare(a.Name, b.Name) }) {
				t.Errorf("%d updates: not in order", n)
			}
		}
	}
}

// roomy returns l with capacity to spare, which holds what must stay.
func roomy[T any](l []T, spare T) []T {
	x := append(slices.Clone(l), slices.Repeat([]T{spare}, 8)...)
	return x[:len(l)]
}

// Arguments stay as they are, their spare capacity too, and nothing of a result is shared.
func TestApplyIsNew(t *testing.T) {
	ref, update := names.Ref{Name: "spare"}, names.Update{Name: "spare"}
	for _, given := range [][]names.Update{
		nil,
		{{"heads/0", "", id(5)}},
		{{"tags/z", "", id(5)}, {"heads/a", id(1), ""}},
		{{"heads/a-b", id(2), id(5)}},
	} {
		x := some()
		x.Refs, x.Log = roomy(x.Refs, ref), roomy(x.Log, update)
		l := roomy(given, update)
		unchanged := func() bool {
			return same(x, some()) && slices.Equal(l, given) &&
				!slices.ContainsFunc(x.Refs[len(x.Refs):cap(x.Refs)][:8], func(r names.Ref) bool { return r != ref }) &&
				!slices.ContainsFunc(x.Log[len(x.Log):cap(x.Log)][:8], func(u names.Update) bool { return u != update }) &&
				!slices.ContainsFunc(l[len(l):cap(l)][:8], func(u names.Update) bool { return u != update })
		}
		y, err := x.Apply(l, "heads/a")
		if err != api.OK || !unchanged() {
			t.Errorf("Apply of %q: %d; an argument has changed", given, err)
		}
		y.Refs, y.Log = y.Refs[:cap(y.Refs)], y.Log[:cap(y.Log)]
		for i := range y.Refs {
			y.Refs[i] = names.Ref{Name: "changed"}
		}
		for i := range y.Log {
			y.Log[i] = names.Update{Name: "changed"}
		}
		if !unchanged() {
			t.Errorf("Apply of %q: the result shares its memory", given)
		}
	}
}

// model is a table as the chapter says, by maps.
type model struct {
	refs map[string]string
	head string
	log  []names.Update
}

func (m model) table() names.Table {
	t := names.Table{Head: m.head, Log: m.log}
	for _, name := range slices.Sorted(maps.Keys(m.refs)) {
		t.Refs = append(t.Refs, names.Ref{Name: name, ID: m.refs[name]})
	}
	return t
}

func (m model) apply(l []names.Update, head string) (model, api.Errno) {
	wrongID := func(s string) bool { return s != "" && len(s) != 32 }
	if len(l) == 0 && head == "" {
		return m, api.ErrArg
	}
	for _, u := range l {
		if len(u.Name) > 64 || !rule.MatchString(u.Name) {
			return m, api.ErrName
		}
	}
	if head != "" && (len(head) > 64 || !rule.MatchString(head) || head[0] != 'h') {
		return m, api.ErrName
	}
	for i, u := range l {
		for _, v := range l[:i] {
			if u.Name == v.Name {
				return m, api.ErrArg
			}
		}
		if wrongID(u.Old) || wrongID(u.New) || u.Old == u.New {
			return m, api.ErrArg
		}
	}
	for _, u := range l {
		if m.refs[u.Name] != u.Old {
			return m, api.ErrStale
		}
	}
	next := model{maps.Clone(m.refs), m.head, slices.Concat(m.log, l)}
	for _, u := range l {
		next.refs[u.Name] = u.New
		if u.New == "" {
			delete(next.refs, u.Name)
		}
	}
	if head != "" {
		next.head = head
	}
	for len(next.log) > 256 {
		next.log = next.log[1:]
	}
	return next, api.OK
}

// known returns what Known must return.
func (m model) known() []string {
	all := map[string]int{}
	for _, s := range m.refs {
		all[s]++
	}
	for _, u := range m.log {
		all[u.Old]++
		all[u.New]++
	}
	delete(all, "")
	return slices.Sorted(maps.Keys(all))
}

// randomUpdate returns an update of a table, most of which are possible.
func randomUpdate(r *rand.Rand, m model) names.Update {
	name := []string{"heads/a", "heads/b", "heads/a/b", "heads/a.b", "tags/a", "tags/b-c", "heads/main", "tags/0"}[r.Intn(8)]
	u := names.Update{Name: name, Old: m.refs[name], New: []string{"", id('A'), id('B'), id('C'), id(byte(r.Intn(256)))}[r.Intn(5)]}
	switch r.Intn(40) {
	case 0:
		u.Name = "heads/" + string([]byte{byte(r.Intn(256))})
	case 1:
		u.Old = id('A')
	case 2:
		u.New = id('A')[:r.Intn(33)]
	case 3:
		u.Old = ""
	}
	return u
}

// Random updates make of a table what they make of the model.
func TestApplyAsModel(t *testing.T) {
	outcomes := map[api.Errno]int{}
	for seed := range int64(40) {
		r := rand.New(rand.NewSource(seed))
		m := model{map[string]string{}, "heads/main", nil}
		x := m.table()
		for step := range 300 {
			var l []names.Update
			for range r.Intn(4) {
				l = append(l, randomUpdate(r, m))
			}
			head := []string{"", "", "", "heads/a", "heads/main", "tags/a", "heads/b"}[r.Intn(7)]
			next, want := m.apply(l, head)
			y, err := x.Apply(l, head)
			outcomes[err]++
			if err != want || err != api.OK && !same(y, names.Table{}) || !same(x, m.table()) {
				t.Fatalf("seed %d, step %d: Apply(%q, %s): %s, %d, want %d", seed, step, l, head, show(y), err, want)
			}
			if err != api.OK {
				continue
			}
			m, x = next, y
			if !same(x, m.table()) || !slices.Equal(x.Known(), m.known()) {
				t.Fatalf("seed %d, step %d: Apply(%q, %s): %s, want %s", seed, step, l, head, show(x), show(m.table()))
			}
			for _, u := range l {
				if s, ok := x.Get(u.Name); s != u.New || ok != (u.New != "") {
					t.Fatalf("seed %d, step %d: Get(%s): %x, %v", seed, step, u.Name, s, ok)
				}
			}
			if z, err := names.Decode(names.Encode(x)); !same(z, x) || err != api.OK {
				t.Fatalf("seed %d, step %d: decoded: %s, %d", seed, step, show(z), err)
			}
		}
	}
	for _, err := range []api.Errno{api.OK, api.ErrArg, api.ErrName, api.ErrStale} {
		if outcomes[err] < 100 {
			t.Errorf("the error %d occurred %d times only", err, outcomes[err])
		}
	}
}

// No call with a table that is none panics (P1).
func TestByHand(t *testing.T) {
	l := []names.Update{{"heads/a", "", id(1)}, {"heads/c", id(1), ""}}
	for _, x := range []names.Table{
		{},
		{Refs: []names.Ref{{}, {}, {"heads/b", "x"}, {"heads/a", ""}, {"heads/a", id(1)}}},
		{Refs: []names.Ref{{"\xff", "\xff"}}, Head: "\xff", Log: []names.Update{{}, {"\xff", "x", "x"}}},
		{Refs: make([]names.Ref, 1000), Log: make([]names.Update, 1000)},
	} {
		x.Get("heads/a")
		x.Get("")
		x.Apply(l, "")
		x.Apply(nil, "heads/a")
		x.Known()
		names.Decode(names.Encode(x))
	}
}
