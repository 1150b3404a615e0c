package sweep_test

import (
	"fmt"
	"maps"
	"math/rand"
	"slices"
	"testing"

	"stemma/api"
	"stemma/file"
	"stemma/graph"
	"stemma/object"
	"stemma/pack"
	"stemma/sector"
	"stemma/shelf"
	"stemma/sweep"
)

// link is what an object names, and the kind that it must have.
type link struct {
	id   string
	kind int
}

// linksOf returns what an object names.
func linksOf(o object.Object) []link {
	var l []link
	for _, e := range o.Entries {
		l = append(l, link{e.ID, object.Blob})
	}
	if o.Kind == object.Commit {
		l = append(l, link{o.Tree, object.Tree})
	}
	for _, id := range o.Parents {
		l = append(l, link{id, object.Commit})
	}
	if o.Kind == object.Tag {
		l = append(l, link{o.Target, object.Commit})
	}
	return l
}

// model says what the calls must return, by the chapter's words alone.
type model struct {
	s     *shelf.Shelf
	roots []string
}

// read returns the object of an ID, and the error of reading it.
func (m model) read(id string) (object.Object, api.Errno) {
	text, err := m.s.Get(id)
	if err != api.OK {
		return object.Object{}, err
	}
	o, err := object.Decode(text)
	if err != api.OK {
		err = api.ErrForm
	}
	return o, err
}

// reachable returns all IDs that are, with their errors: as long as that yields another one, the Links of all are added.
func (m model) reachable() map[string]api.Errno {
	set := map[string]api.Errno{}
	for _, id := range m.roots {
		set[id] = api.OK
	}
	for n := -1; n != len(set); {
		n = len(set)
		for _, id := range slices.Collect(maps.Keys(set)) {
			o, _ := m.read(id)
			for _, x := range linksOf(o) {
				set[x.id] = api.OK
			}
		}
	}
	for id := range set {
		_, set[id] = m.read(id)
	}
	for id := range set {
		o, _ := m.read(id)
		for _, x := range linksOf(o) {
			if named, err := m.read(x.id); err == api.OK && named.Kind != x.kind {
				set[x.id] = api.ErrKind
			}
		}
	}
	return set
}

func (m model) reach() ([]string, api.Errno) {
	set := m.reachable()
	l := slices.Sorted(maps.Keys(set))
	for _, id := range l {
		if set[id] != api.OK {
			return nil, set[id]
		}
	}
	return l, api.OK
}

func (m model) commits() ([]graph.Node, api.Errno) {
	ids, err := m.reach()
	var l []graph.Node
	for _, id := range ids {
		if o, _ := m.read(id); o.Kind == object.Commit {
			l = append(l, graph.Node{ID: id, Parents: o.Parents, Time: o.Time})
		}
	}
	return l, err
}

func (m model) check() []sweep.Fault {
	set := m.reachable()
	for _, id := range m.s.IDs() {
		if _, ok := set[id]; !ok {
			_, set[id] = m.s.Get(id)
		}
	}
	var l []sweep.Fault
	for _, id := range slices.Sorted(maps.Keys(set)) {
		if set[id] != api.OK {
			l = append(l, sweep.Fault{ID: id, Code: set[id]})
		}
	}
	return l
}

// agrees says that the calls that change nothing return what the model says, and returns the error of Reach.
func agrees(t *testing.T, what string, s *shelf.Shelf, roots []string) api.Errno {
	t.Helper()
	m := model{s, roots}
	want, wantErr := m.reach()
	l, err := sweep.Reach(s, roots)
	if err != wantErr || !slices.Equal(l, want) {
		t.Fatalf("%s: Reach: %.8x, %d; want %.8x, %d", what, l, err, want, wantErr)
	}
	wantNodes, _ := m.commits()
	if nodes, err := sweep.Commits(s, roots); err != wantErr || !sameNodes(nodes, wantNodes) {
		t.Fatalf("%s: Commits: %v, %d; want %v, %d", what, nodes, err, wantNodes, wantErr)
	}
	faults, wantFaults := sweep.Check(s, roots), m.check()
	if !slices.Equal(faults, wantFaults) {
		t.Fatalf("%s: Check: %s; want %s", what, told(faults), told(wantFaults))
	}
	if len(faults) == 0 && wantErr != api.OK {
		t.Fatalf("%s: Check returned nothing, Reach %d", what, wantErr)
	}
	return wantErr
}

// wood makes random objects, each of which may name any that came before it.
type wood struct {
	r     *rand.Rand
	wild  bool // what is named may be of any kind, or missing
	texts []string
	kinds []int
}

// pick returns the ID of a text of a kind, if there is one.
func (w *wood) pick(kind int) (string, bool) {
	if w.wild && w.r.Intn(12) == 0 {
		return idOf(fmt.Sprint("missing", w.r.Intn(3))), true
	}
	var l []string
	for i, data := range w.texts {
		if w.kinds[i] == kind || w.wild && w.r.Intn(8) == 0 {
			l = append(l, data)
		}
	}
	if len(l) == 0 {
		return "", false
	}
	return idOf(l[w.r.Intn(len(l))]), true
}

// several returns the IDs of up to n texts of a kind, each once.
func (w *wood) several(kind, n int) []string {
	var l []string
	for range w.r.Intn(n + 1) {
		if id, ok := w.pick(kind); ok && !slices.Contains(l, id) {
			l = append(l, id)
		}
	}
	return l
}

// grow adds a text.
func (w *wood) grow() {
	kind := 1 + w.r.Intn(4)
	data := blob(fmt.Sprint(w.r.Intn(1000)))
	switch kind {
	case object.Tree:
		data = tree(w.several(object.Blob, 5)...)
	case object.Commit:
		id, ok := w.pick(object.Tree)
		if !ok {
			return
		}
		data = commit(w.r.Intn(10), id, w.several(object.Commit, 3)...)
	case object.Tag:
		id, ok := w.pick(object.Commit)
		if !ok {
			return
		}
		data = tag(fmt.Sprint("t", w.r.Intn(10)), id)
	}
	if w.wild && w.r.Intn(20) == 0 {
		kind, data = 0, data+"x"
	}
	w.texts = append(w.texts, data)
	w.kinds = append(w.kinds, kind)
}

// roots returns the IDs of some texts.
func (w *wood) roots() []string {
	var l []string
	for range w.r.Intn(5) {
		l = append(l, idOf(w.texts[w.r.Intn(len(w.texts))]))
	}
	if w.wild && w.r.Intn(10) == 0 {
		l = append(l, []string{"", "no ID", idOf("missing0")}[w.r.Intn(3)])
	}
	return l
}

// planted returns a shelf with random objects, some of them in packs, and all of the objects.
func planted(t *testing.T, r *rand.Rand) (*shelf.Shelf, *sector.Disk, *wood) {
	t.Helper()
	w := &wood{r: r, wild: r.Intn(3) > 0}
	for range 2 + r.Intn(30) {
		w.grow()
	}
	if len(w.texts) == 0 {
		w.texts, w.kinds = []string{blob("")}, []int{object.Blob}
	}
	d, err := sector.New(120)
	ok(t, "New", err)
	ok(t, "Format", file.Format(d, 40))
	f := mount(t, d)
	at := 0
	for n := range 3 {
		next := at + r.Intn(len(w.texts)-at+1)
		p, err := pack.Make(w.texts[at:next])
		ok(t, "Make", err)
		ok(t, "Write", f.Write(named(byte(n)), p))
		at = next
	}
	s := open(t, f)
	for _, data := range w.texts[at:] {
		if !w.wild || r.Intn(15) > 0 {
			stored(t, s, data)
		}
	}
	if w.wild && r.Intn(4) == 0 {
		data := w.texts[r.Intn(len(w.texts))]
		ok(t, "Write", f.Write(looseName(idOf(data)), w.texts[r.Intn(len(w.texts))]))
	}
	if w.wild && r.Intn(6) == 0 {
		id := idOf(w.texts[r.Intn(len(w.texts))])
		p := []string{onePack(id, "other"), brokenPack(id)}[r.Intn(2)]
		ok(t, "Write", f.Write(named(255), p))
		s = open(t, f)
	}
	return s, d, w
}

// P23.1 to P23.3

func TestRandom(t *testing.T) {
	seen := map[api.Errno]int{}
	for seed := range int64(1500) {
		r := rand.New(rand.NewSource(seed))
		s, d, w := planted(t, r)
		what := fmt.Sprint("seed ", seed)
		var roots []string
		unchanged(t, what, d, func() {
			for range 3 {
				roots = w.roots()
				seen[agrees(t, what, s, roots)]++
			}
		})
		want, err := model{s, roots}.reach()
		if err == api.OK {
			text := func(id string) string {
				return w.texts[slices.IndexFunc(w.texts, func(x string) bool { return idOf(x) == id })]
			}
			var l []string
			for _, id := range want {
				l = append(l, text(id))
			}
			collected(t, what, d, s, roots, l...)
		} else {
			unchanged(t, what+": Collect", d, func() {
				if x := sweep.Collect(s, roots); x != err {
					t.Errorf("%s: Collect: %d; want %d", what, x, err)
				}
			})
		}
		if t.Failed() {
			return
		}
	}
	for err, least := range map[api.Errno]int{api.OK: 1000, api.ErrNone: 200, api.ErrKind: 200, api.ErrForm: 50, api.ErrCorrupt: 20, api.ErrArg: 20} {
		if seen[err] < least {
			t.Errorf("errors: %v", seen)
		}
	}
}

// P23.3

// Check tells what a Get would, also if the shelf is not opened again after sectors were spoiled.
func TestSpoiled(t *testing.T) {
	faults := 0
	for seed := range int64(1000) {
		r := rand.New(rand.NewSource(seed))
		s, d, w := planted(t, r)
		for range 1 + r.Intn(5) {
			i := r.Intn(d.Size())
			old, _ := d.Read(i)
			b := []byte(old)
			b[r.Intn(80)] ^= 1 << r.Intn(8)
			ok(t, "Spoil", d.Spoil(i, string(b)))
		}
		what := fmt.Sprint("seed ", seed)
		unchanged(t, what, d, func() { agrees(t, what, s, w.roots()) })
		faults += len(sweep.Check(s, nil))
	}
	if faults < 100 {
		t.Errorf("%d faults", faults)
	}
}

// Each object in a file of its own is found to be wrong once its sector is.
func TestSpoiledEach(t *testing.T) {
	m := small()
	s, _, d := fresh(t, all(m)...)
	roots := idsOf(m["both"])
	sectors, _ := content(t, d)
	for name, data := range m {
		i := slices.IndexFunc(sectors, func(x string) bool {
			return x[:len(data)] == data && x[len(data):] == string(make([]byte, 512-len(data)))
		})
		if i < 0 {
			t.Fatalf("%s is in no sector", name)
		}
		ok(t, "Spoil", d.Spoil(i, "spoiled"))
		want := []sweep.Fault{{ID: idOf(data), Code: api.ErrCorrupt}}
		checks(t, name, s, roots, want...)
		checks(t, name+", without roots", s, nil, want...)
		if l, err := sweep.Reach(s, roots); name != "lone" && name != "tag" && (len(l) != 0 || err != api.ErrCorrupt) {
			t.Errorf("%s: Reach: %.8x, %d", name, l, err)
		}
		ok(t, "Spoil", d.Spoil(i, data))
		checks(t, name+", made good", s, roots)
	}
}
