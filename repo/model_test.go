package repo_test

import (
	"fmt"
	"math/rand"
	"slices"
	"strings"
	"testing"

	"stemma/api"
	"stemma/file"
	"stemma/graph"
	"stemma/keydiff"
	"stemma/names"
	"stemma/object"
	"stemma/refs"
	"stemma/repo"
	"stemma/rules"
	"stemma/sector"
	"stemma/shelf"
	"stemma/sweep"
	"stemma/treemerge"
)

// plain does what the chapter says, by calls of the layers beneath alone.
type plain struct{ layers }

// answer is what a call returned: all of it, as a text.
func answer(l ...any) string { return fmt.Sprintf("%q", l) }

// powerless: can nothing be called?
func (p plain) powerless() bool {
	_, err := p.f.Read("x")
	return err == api.ErrPower
}

// objectOf returns the object of an ID, and its error as one of some kinds.
func (p plain) objectOf(id string, want []int) (object.Object, api.Errno) {
	text, err := p.s.Get(id)
	if err != api.OK {
		return object.Object{}, err
	}
	o, err := object.Decode(text)
	if err != api.OK {
		return object.Object{}, api.ErrForm
	}
	if !slices.Contains(want, o.Kind) {
		return object.Object{}, api.ErrKind
	}
	return o, api.OK
}

var (
	onlyCommit  = []int{object.Commit}
	commitOrTag = []int{object.Commit, object.Tag}
)

func (p plain) head() (string, bool) { return p.r.Table().Get(p.r.Table().Head) }

func (p plain) commit(l []keydiff.Item, n repo.Note, parents []string) (string, api.Errno) {
	if !keydiff.Right(l) {
		return "", api.ErrOrder
	}
	for _, f := range l {
		if !object.Good(f.Key) {
			return "", api.ErrName
		}
	}
	o := object.Object{Kind: object.Tree}
	for _, f := range l {
		if _, err := rules.Check(rules.Kind(f.Key), f.Value); err != api.OK {
			return "", err
		}
		o.Entries = append(o.Entries, object.Entry{Name: f.Key, ID: idOf(blob(f.Value))})
	}
	treeText, err := object.Encode(o)
	if err != api.OK {
		return "", err
	}
	commitText, err := object.Encode(object.Object{
		Kind: object.Commit, Tree: idOf(treeText), Parents: parents, Author: n.Author, Text: n.Text, Time: n.Time,
	})
	if err != api.OK {
		return "", err
	}
	for _, f := range l {
		if _, err := p.s.Put(blob(f.Value)); err != api.OK {
			return "", err
		}
	}
	if _, err := p.s.Put(treeText); err != api.OK {
		return "", err
	}
	id, err := p.s.Put(commitText)
	if err != api.OK {
		return "", err
	}
	return p.move(id)
}

// move makes the head's branch refer to an ID.
func (p plain) move(id string) (string, api.Errno) {
	old, _ := p.head()
	if err := p.r.Update([]names.Update{{Name: p.r.Table().Head, Old: old, New: id}}, ""); err != api.OK {
		return "", err
	}
	return id, api.OK
}

func (p plain) commitToHead(l []keydiff.Item, n repo.Note) (string, api.Errno) {
	if id, ok := p.head(); ok {
		return p.commit(l, n, []string{id})
	}
	return p.commit(l, n, nil)
}

func (p plain) branch(name, id string) api.Errno {
	if !names.Branch(name) {
		return api.ErrName
	}
	if _, err := p.objectOf(id, onlyCommit); err != api.OK {
		return err
	}
	return p.r.Update([]names.Update{{Name: name, New: id}}, "")
}

func (p plain) tag(name, id, text string) api.Errno {
	if !names.Good(name) || names.Branch(name) {
		return api.ErrName
	}
	if _, err := p.objectOf(id, onlyCommit); err != api.OK {
		return err
	}
	if _, ok := p.r.Table().Get(name); ok {
		return api.ErrStale
	}
	parts := strings.Split(name, "/")
	data, err := object.Encode(object.Object{Kind: object.Tag, Target: id, Name: parts[len(parts)-1], Text: text})
	if err != api.OK {
		return err
	}
	if _, err := p.s.Put(data); err != api.OK {
		return err
	}
	return p.r.Update([]names.Update{{Name: name, New: idOf(data)}}, "")
}

func (p plain) update(l []names.Update) api.Errno {
	if _, err := p.r.Table().Apply(l, ""); err != api.OK {
		return err
	}
	for _, u := range l {
		want := commitOrTag
		if names.Branch(u.Name) {
			want = onlyCommit
		}
		if _, err := p.objectOf(u.New, want); u.New != "" && err != api.OK {
			return err
		}
	}
	return p.r.Update(l, "")
}

func (p plain) switchTo(name string) api.Errno {
	_, ok := p.r.Table().Get(name)
	switch {
	case !names.Branch(name):
		return api.ErrName
	case !ok:
		return api.ErrNone
	case name == p.r.Table().Head:
		return api.OK
	}
	return p.r.Update(nil, name)
}

// commitID returns that of an ID, and the error of Files up to it.
func (p plain) commitID(id string) (string, api.Errno) {
	o, err := p.objectOf(id, commitOrTag)
	if err != api.OK || o.Kind == object.Commit {
		return id, err
	}
	_, err = p.objectOf(o.Target, onlyCommit)
	return o.Target, err
}

func (p plain) files(id string) ([]keydiff.Item, api.Errno) {
	id, err := p.commitID(id)
	if err != api.OK {
		return nil, err
	}
	c, _ := p.objectOf(id, onlyCommit)
	x, err := p.objectOf(c.Tree, []int{object.Tree})
	var l []keydiff.Item
	for _, e := range x.Entries {
		b, err := p.objectOf(e.ID, []int{object.Blob})
		if err != api.OK {
			return nil, err
		}
		l = append(l, keydiff.Item{Key: e.Name, Value: b.Body})
	}
	return l, err
}

// history returns the graph of what is reachable from some IDs.
func (p plain) history(ids []string) (*graph.Graph, api.Errno) {
	l, err := sweep.Commits(p.s, ids)
	if err != api.OK {
		return nil, err
	}
	g, err := graph.New(l)
	if err != api.OK {
		panic(err)
	}
	return g, api.OK
}

func (p plain) log(id string) ([]string, api.Errno) {
	id, err := p.commitID(id)
	if err != api.OK {
		return nil, err
	}
	g, err := p.history([]string{id})
	return g.Log(id), err
}

func (p plain) diff(a, b string) ([]keydiff.Change, api.Errno) {
	x, err := p.files(a)
	if err != api.OK {
		return nil, err
	}
	y, err := p.files(b)
	if err != api.OK {
		return nil, err
	}
	return keydiff.Diff(x, y)
}

func (p plain) merge(name string, n repo.Note) (string, []treemerge.Conflict, api.Errno) {
	if !names.Branch(name) {
		return "", nil, api.ErrName
	}
	theirs, ok := p.r.Table().Get(name)
	ours, headToo := p.head()
	if !ok || !headToo {
		return "", nil, api.ErrNone
	}
	g, err := p.history([]string{ours, theirs})
	if err != api.OK {
		return "", nil, err
	}
	if slices.Contains(g.Reach(ours), theirs) {
		return ours, nil, api.OK
	}
	if slices.Contains(g.Reach(theirs), ours) {
		id, err := p.move(theirs)
		return id, nil, err
	}
	var lists [3][]keydiff.Item
	for i, id := range append([]string{ours, theirs}, g.Bases(ours, theirs)...) {
		if i < 3 {
			if lists[i], err = p.files(id); err != api.OK {
				return "", nil, err
			}
		}
	}
	l, conflicts, err := treemerge.Merge(lists[2], lists[0], lists[1])
	if err != api.OK {
		panic(err)
	}
	if len(conflicts) > 0 {
		return "", conflicts, api.ErrConflict
	}
	id, err := p.commit(l, n, []string{ours, theirs})
	return id, nil, err
}

// roomy returns the same on a disk that has space for whatever a call may need.
func (p plain) roomy(t *testing.T) plain {
	t.Helper()
	d := disk(t, api.MaxSectors)
	ok(t, "Format", file.Format(d, api.MaxFiles))
	f, err := file.Mount(d)
	ok(t, "Mount", err)
	for _, name := range p.f.Names() {
		data, err := p.f.Read(name)
		ok(t, "Read", err)
		ok(t, "Write", f.Write(name, data))
	}
	s, err := shelf.Open(f)
	ok(t, "Open", err)
	r, err := refs.Open(f)
	ok(t, "Open", err)
	return plain{layers{f, s, r}}
}

// twins are a repository and what it must be equal to, each on a disk of its own.
type twins struct {
	r    *repo.Repo
	d    *sector.Disk
	p    plain
	like *sector.Disk
}

// both makes a call for each of the disks.
func (x *twins) both(call func(d *sector.Disk)) {
	call(x.d)
	call(x.like)
}

// reopen opens both.
func (x *twins) reopen(t *testing.T) {
	t.Helper()
	x.r, x.p = open(t, x.d), plain{beneath(t, x.like)}
}

// difference tells in what the two differ after a call.
func (x *twins) difference(t *testing.T) string {
	t.Helper()
	if commands(x.d) != commands(x.like) {
		return "the commands"
	}
	if !slices.Equal(content(t, x.d), content(t, x.like)) {
		return "the sectors"
	}
	if !sameTable(x.r.Refs(), x.p.r.Table()) {
		return "the table"
	}
	return ""
}

// chance makes the arguments of calls at random.
type chance struct {
	*rand.Rand
	table names.Table
	ids   []string // of all objects
}

func pick[T any](r chance, l ...T) T { return l[r.Intn(len(l))] }

// someName returns one of a reference, most of which there are.
func (r chance) someName() string {
	if len(r.table.Refs) > 0 && r.Intn(2) == 0 {
		return pick(r, r.table.Refs...).Name
	}
	return pick(r, "heads/main", "heads/a", "heads/b", "heads/c", "heads/a/b", "tags/a", "tags/b", "tags/b/c", "heads/a..b", "")
}

// someBranch returns the name of one that there is, if there are any.
func (r chance) someBranch() string {
	var l []string
	for _, x := range r.table.Refs {
		if x.Name != r.table.Head && names.Branch(x.Name) {
			l = append(l, x.Name)
		}
	}
	if len(l) == 0 || r.Intn(10) == 0 {
		return r.someName()
	}
	return pick(r, l...)
}

// someID returns one, most of which there are.
func (r chance) someID() string {
	if known := r.table.Known(); len(known) > 0 && r.Intn(2) == 0 {
		return pick(r, known...)
	}
	if len(r.ids) == 0 || r.Intn(5) == 0 {
		return pick(r, "", "no ID", idOf("none"))
	}
	return pick(r, r.ids...)
}

func (r chance) someNote() repo.Note {
	n := repo.Note{Author: pick(r, "me", "you"), Text: pick(r, "", "why"), Time: r.Intn(100)}
	if r.Intn(30) == 0 {
		n = pick(r, repo.Note{Time: -1}, repo.Note{Author: strings.Repeat("x", 257)}, repo.Note{Text: strings.Repeat("x", 4097)})
	}
	return n
}

// lines returns some of the lines of a text, in their order.
func (r chance) lines(l ...string) string {
	return strings.Join(slices.DeleteFunc(l, func(string) bool { return r.Intn(3) == 0 }), "")
}

// someFiles returns files, most of which are valid.
func (r chance) someFiles() []keydiff.Item {
	var l []keydiff.Item
	add := func(name, text string) {
		if r.Intn(8) > 0 {
			l = append(l, keydiff.Item{Key: name, Value: text})
		}
	}
	add("a.merges", r.lines("a b\n", "b c\n", "c d\n"))
	add("b.rules", r.lines("a 1\n", "b "+pick(r, "1", "1", "2")+"\n", "c 3\n"))
	add("c", noise(0, r.Intn(8)/7*1200))
	add("d.chat", r.lines("1\n", "2\n", "3\n", "4\n"))
	add("e.vocab", r.lines("1 a\n", "2 b\n", "3 c\n"))
	if len(l) > 0 && r.Intn(25) == 0 {
		l[r.Intn(len(l))] = pick(r, keydiff.Item{Key: "a.merges", Value: "ab c\n"}, keydiff.Item{Key: "A"}, keydiff.Item{Key: "d.rules", Value: "x"})
	}
	return l
}

// someUpdates returns updates of a table, most of which are possible.
func (r chance) someUpdates(x names.Table) []names.Update {
	var l []names.Update
	for range r.Intn(4) {
		name := r.someName()
		old, _ := x.Get(name)
		u := names.Update{Name: name, Old: old, New: pick(r, "", r.someID(), r.someID())}
		if r.Intn(20) == 0 {
			u.Old = r.someID()
		}
		if names.Good(name) || r.Intn(5) == 0 {
			l = append(l, u)
		}
	}
	return l
}

// outcome is what a call returned on both.
type outcome struct {
	name      string
	err       api.Errno
	got, want string
}

// step makes one call on both.
func (x *twins) step(t *testing.T, r chance) outcome {
	l, n, id, other := r.someFiles(), r.someNote(), r.someID(), r.someID()
	name, branch := r.someName(), r.someBranch()
	switch r.Intn(22) {
	case 0, 1, 2, 3:
		a, err := x.r.Commit(l, n)
		b, like := x.p.commitToHead(l, n)
		return outcome{"Commit", err, answer(a, err), answer(b, like)}
	case 4:
		a, err := x.r.Plan(l, n)
		b, like := x.p.roomy(t).commitToHead(l, n)
		return outcome{"Plan", err, answer(a, err), answer(b, like)}
	case 5, 6:
		err, like := x.r.Branch(name, id), x.p.branch(name, id)
		return outcome{"Branch", err, answer(err), answer(like)}
	case 7:
		err, like := x.r.Tag(name, id, n.Text), x.p.tag(name, id, n.Text)
		return outcome{"Tag", err, answer(err), answer(like)}
	case 8:
		u := r.someUpdates(x.p.r.Table())
		err, like := x.r.Update(u), x.p.update(u)
		return outcome{"Update", err, answer(err), answer(like)}
	case 9, 10, 11:
		err, like := x.r.Switch(branch), x.p.switchTo(branch)
		return outcome{"Switch", err, answer(err), answer(like)}
	case 12:
		a, err := x.r.Files(id)
		b, like := x.p.files(id)
		return outcome{"Files", err, answer(a, err), answer(b, like)}
	case 13:
		a, err := x.r.Log(id)
		b, like := x.p.log(id)
		return outcome{"Log", err, answer(a, err), answer(b, like)}
	case 14:
		a, err := x.r.Diff(id, other)
		b, like := x.p.diff(id, other)
		return outcome{"Diff", err, answer(a, err), answer(b, like)}
	case 15, 16, 17, 18:
		a, c, err := x.r.Merge(branch, n)
		b, e, like := x.p.merge(branch, n)
		return outcome{"Merge", err, answer(a, c, err), answer(b, e, like)}
	case 19:
		a, err := x.r.PlanMerge(branch, n)
		b, _, like := x.p.roomy(t).merge(branch, n)
		return outcome{"PlanMerge", err, answer(a, err), answer(b, like)}
	}
	return x.sweepStep(r)
}

// sweepStep is a step of those that take all objects.
func (x *twins) sweepStep(r chance) outcome {
	switch r.Intn(3) {
	case 0:
		err, like := x.r.Repack(), x.p.s.Repack(x.p.s.IDs())
		return outcome{"Repack", err, answer(err), answer(like)}
	case 1:
		err, like := x.r.Collect(), sweep.Collect(x.p.s, x.p.r.Table().Known())
		return outcome{"Collect", err, answer(err), answer(like)}
	}
	return outcome{"Check", api.OK, answer(x.r.Check()), answer(sweep.Check(x.p.s, x.p.r.Table().Known()))}
}

// known returns the files of all IDs that the table knows, as a text.
func known(r *repo.Repo, table names.Table) map[string]string {
	m := map[string]string{}
	for _, id := range table.Known() {
		l, err := r.Files(id)
		m[id] = answer(l, err)
	}
	return m
}

// kept says that what is known has the files that it had.
func kept(t *testing.T, what string, r *repo.Repo, want map[string]string) {
	t.Helper()
	for id, x := range want {
		l, err := r.Files(id)
		if y := answer(l, err); y != x {
			t.Errorf("%s: Files(%.8x): %.200s, want %.200s", what, id, y, x)
		}
	}
}

// Random calls, the power failing at random in them, do to the disk what the chapter says, command by command.
func TestAsLayers(t *testing.T) {
	failures, seen := 0, map[string]map[api.Errno]int{}
	for seed := range int64(150) {
		r := chance{Rand: rand.New(rand.NewSource(seed))}
		files := 16 + r.Intn(2)*150
		n := files + 40 + r.Intn(2)*300 + r.Intn(60)
		x := &twins{d: disk(t, n), like: disk(t, n)}
		x.both(func(d *sector.Disk) { ok(t, "Init", repo.Init(d, files)) })
		x.reopen(t)
		for step := range 100 {
			r.table, r.ids = x.r.Refs(), x.p.s.IDs()
			before := known(x.r, r.table)
			if r.Intn(3) == 0 {
				cut, keep := 1+r.Intn(60), []int{r.Intn(2), r.Intn(2), r.Intn(2)}
				x.both(func(d *sector.Disk) { d.Cut(cut, keep...) })
			}
			y := x.step(t, r)
			what := fmt.Sprintf("seed %d, step %d: %s: %.300s", seed, step, y.name, y.got)
			if y.got != y.want {
				t.Fatalf("%s: want %.300s", what, y.want)
			}
			failed := x.d.Off()
			x.both(func(d *sector.Disk) { d.On() })
			if y := x.difference(t); y != "" {
				t.Fatalf("%s: other than the chapter's: %s", what, y)
			}
			if seen[y.name] == nil {
				seen[y.name] = map[api.Errno]int{}
			}
			seen[y.name][y.err]++
			if failed {
				failures++
				is(t, what+": not opened again", x.r.Repack(), api.ErrPower)
				x.reopen(t)
				if y := x.difference(t); y != "" {
					t.Fatalf("%s, opened again: other than the chapter's: %s", what, y)
				}
			}
			kept(t, what, x.r, before)
			if t.Failed() {
				return
			}
		}
	}
	enough(t, seen, failures)
}

// enough says that the random calls have met what they are to meet.
func enough(t *testing.T, seen map[string]map[api.Errno]int, failures int) {
	t.Helper()
	if failures < 500 {
		t.Errorf("the power failed %d times only", failures)
	}
	for name, errs := range map[string][]api.Errno{
		"Commit":    {api.OK, api.ErrPower, api.ErrSpace, api.ErrArg, api.ErrName, api.ErrOrder, api.ErrValid},
		"Plan":      {api.OK, api.ErrArg},
		"Branch":    {api.OK, api.ErrPower, api.ErrName, api.ErrKind, api.ErrStale, api.ErrArg, api.ErrNone},
		"Tag":       {api.OK, api.ErrPower, api.ErrSpace, api.ErrName, api.ErrKind, api.ErrStale},
		"Update":    {api.OK, api.ErrPower, api.ErrName, api.ErrKind, api.ErrStale, api.ErrArg, api.ErrNone},
		"Switch":    {api.OK, api.ErrPower, api.ErrName, api.ErrNone},
		"Files":     {api.OK, api.ErrKind, api.ErrNone, api.ErrArg},
		"Log":       {api.OK, api.ErrKind, api.ErrNone, api.ErrArg},
		"Diff":      {api.OK, api.ErrKind, api.ErrNone, api.ErrArg},
		"Merge":     {api.OK, api.ErrPower, api.ErrSpace, api.ErrName, api.ErrNone, api.ErrConflict},
		"PlanMerge": {api.OK, api.ErrName, api.ErrNone, api.ErrConflict},
		"Repack":    {api.OK, api.ErrPower, api.ErrSpace},
		"Collect":   {api.OK, api.ErrPower, api.ErrSpace},
		"Check":     {api.OK},
	} {
		for _, err := range errs {
			if seen[name][err] < 3 {
				t.Errorf("%s had the error %d %d times only", name, err, seen[name][err])
			}
		}
	}
	if t.Failed() {
		t.Logf("%v", seen)
	}
}
