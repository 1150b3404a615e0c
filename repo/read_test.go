package repo_test

import (
	"fmt"
	"slices"
	"testing"

	"stemma/api"
	"stemma/keydiff"
	"stemma/names"
	"stemma/nums"
	"stemma/repo"
	"stemma/sector"
)

// P24.4

// unread says what error Files and Diff, and Log, must have for an ID.
func unread(t *testing.T, what string, r *repo.Repo, d *sector.Disk, id string, files, log api.Errno) {
	t.Helper()
	unchanged(t, what, d, func() {
		if l, err := r.Files(id); len(l) != 0 || err != files {
			t.Errorf("%s: Files: %q, %d; want %d", what, l, err, files)
		}
		if l, err := r.Diff(id, id); len(l) != 0 || err != files {
			t.Errorf("%s: Diff: %v, %d; want %d", what, l, err, files)
		}
		if l, err := r.Log(id); len(l) != 0 || err != log {
			t.Errorf("%s: Log: %.8x, %d; want %d", what, l, err, log)
		}
	})
}

// Both a Commit and a Tag of it have files.
func TestFiles(t *testing.T) {
	k := ofAllKinds()
	r, d := planted(t, k.all()...)
	r = wrong(t, d)
	contains(t, "a commit", r, idOf(k.commit), files("a", "x"))
	contains(t, "a tag", r, idOf(k.tag), files("a", "x"))
	for id, want := range notCommits(k) {
		if id != idOf(k.tag) {
			unread(t, "no commit", r, d, id, want, want)
		}
	}
}

// What a tag names must be a commit.
func TestFilesOfTag(t *testing.T) {
	k := ofAllKinds()
	var texts []string
	for id := range notCommits(k) {
		if len(id) == 32 {
			texts = append(texts, tag(id, "v", ""))
		}
	}
	r, d := planted(t, append(texts, k.all()...)...)
	r = wrong(t, d)
	for id, want := range notCommits(k) {
		if len(id) == 32 {
			unread(t, "a tag of no commit", r, d, idOf(tag(id, "v", "")), want, want)
		}
	}
}

// The first error of the tree and of its blobs counts; Log has that of the least ID.
func TestFilesOfTree(t *testing.T) {
	k := ofAllKinds()
	none, junk := idOf("none"), idOf(k.junk)
	a, b := idOf(blob("a")), idOf(blob("b"))
	for what, x := range map[string]struct {
		tree string
		want api.Errno
	}{
		"no tree":              {idOf(k.blob), api.ErrKind},
		"a commit":             {idOf(k.commit), api.ErrKind},
		"a tag":                {idOf(k.tag), api.ErrKind},
		"a missing tree":       {none, api.ErrNone},
		"a tree that is none":  {junk, api.ErrForm},
		"a corrupt tree":       {corrupt, api.ErrCorrupt},
		"a missing blob":       {tree("a", a, "b", none, "c", junk), api.ErrNone},
		"a blob that is none":  {tree("a", a, "b", junk, "c", none), api.ErrForm},
		"a corrupt blob":       {tree("a", corrupt, "b", junk, "c", none), api.ErrCorrupt},
		"a tree in the tree":   {tree("a", a, "b", b, "c", idOf(k.tree)), api.ErrKind},
		"a commit in the tree": {tree("a", idOf(k.commit), "b", none), api.ErrKind},
		"the same twice":       {tree("a", a, "b", a, "c", none), api.ErrNone},
	} {
		texts := append([]string{blob("a"), blob("b")}, k.all()...)
		id := x.tree
		if len(id) != 32 {
			texts, id = append(texts, x.tree), idOf(x.tree)
		}
		c := commit(id, note(1))
		texts = append(texts, c, tag(idOf(c), "v", ""))
		_, d := planted(t, texts...)
		r := wrong(t, d)
		// The errors of Log are those of layer 23, in the order of the IDs.
		least := map[string]api.Errno{}
		for _, y := range r.Check() {
			least[y.ID] = y.Code
		}
		_, log := r.Log(idOf(c))
		if log == api.OK {
			t.Errorf("%s: Log returned OK", what)
		}
		unread(t, what, r, d, idOf(c), x.want, log)
		unread(t, what+", a tag", r, d, idOf(tag(idOf(c), "v", "")), x.want, log)
		if l, err := r.Diff(idOf(k.commit), idOf(c)); len(l) != 0 || err != x.want {
			t.Errorf("%s: Diff to it: %v, %d", what, l, err)
		}
		if l, err := r.Diff(none, idOf(c)); len(l) != 0 || err != api.ErrNone {
			t.Errorf("%s: Diff to it from what is not there: %v, %d", what, l, err)
		}
	}
}

// Files has no parents to read, Log has all of them.
func TestLogErrors(t *testing.T) {
	k := ofAllKinds()
	tree := idOf(k.tree)
	of := func(parent string) string { return commit(tree, note(2), parent) }
	orphan, child := of(idOf("none")), of(idOf(of(idOf("none"))))
	treeless := commit(idOf("none"), note(0))
	texts := append([]string{orphan, child, of(tree), of(idOf(k.tag)), of(idOf(k.junk)), of(corrupt), treeless, of(idOf(treeless))}, k.all()...)
	_, d := planted(t, texts...)
	r := wrong(t, d)
	for what, x := range map[string]struct {
		data string
		want api.Errno
	}{
		"no parent":               {orphan, api.ErrNone},
		"no grandparent":          {child, api.ErrNone},
		"a tree as a parent":      {of(tree), api.ErrKind},
		"a tag as a parent":       {of(idOf(k.tag)), api.ErrKind},
		"a parent that is none":   {of(idOf(k.junk)), api.ErrForm},
		"a corrupt parent":        {of(corrupt), api.ErrCorrupt},
		"a parent without a tree": {of(idOf(treeless)), api.ErrNone},
	} {
		if l, err := r.Log(idOf(x.data)); len(l) != 0 || err != x.want {
			t.Errorf("%s: Log: %.8x, %d; want %d", what, l, err, x.want)
		}
		contains(t, what, r, idOf(x.data), files("a", "x"))
	}
}

// Of several errors Log has that of the least ID.
func TestLogLeastError(t *testing.T) {
	seen := map[api.Errno]int{}
	for i := range 12 {
		junk, none := fmt.Sprint("no object ", i), idOf(fmt.Sprint("none ", i))
		data := tree("a", idOf(junk), "b", none)
		c := commit(idOf(data), note(1))
		r, d := planted(t, junk, data, c)
		want := api.ErrForm
		if none < idOf(junk) {
			want = api.ErrNone
		}
		unread(t, "two errors", r, d, idOf(c), api.ErrForm, want)
		seen[want]++
	}
	if len(seen) != 2 {
		t.Errorf("%v", seen)
	}
}

func TestLog(t *testing.T) {
	r, d := fresh(t, 200, 80)
	a := committed(t, r, 5, "a", "x")
	b := committed(t, r, 1, "a", "y")
	branched(t, r, "heads/side", a)
	c := committed(t, r, 9, "a", "x", "b", "y")
	e := committed(t, r, 2, "a", "x", "b", "z")
	ok(t, "Switch", r.Switch("heads/main"))
	m, _, err := r.Merge("heads/side", note(3))
	ok(t, "Merge", err)
	ok(t, "Tag", r.Tag("tags/v", b, ""))
	tagged, _ := r.Refs().Get("tags/v")
	for _, r := range []*repo.Repo{r, open(t, d)} {
		for id, want := range map[string][]string{a: {a}, b: {b, a}, c: {c, a}, e: {e, c, a}, m: {m, e, c, b, a}, tagged: {b, a}} {
			unchanged(t, "Log", d, func() {
				if l, err := r.Log(id); err != api.OK || !slices.Equal(l, want) {
					t.Errorf("Log(%.8x): %.8x, %d; want %.8x", id, l, err, want)
				}
			})
		}
	}
}

func TestDiff(t *testing.T) {
	r, d := fresh(t, 100, 40)
	a := committed(t, r, 1, "a", "1", "b", "1", "c", "")
	b := committed(t, r, 2, "b", "2", "c", "", "d", "")
	ok(t, "Tag", r.Tag("tags/v", a, ""))
	tagged, _ := r.Refs().Get("tags/v")
	none, at := keydiff.Side{}, func(s string) keydiff.Side { return keydiff.Side{Value: s, There: true} }
	there := []keydiff.Change{{Key: "a", Old: at("1"), New: none}, {Key: "b", Old: at("1"), New: at("2")}, {Key: "d", Old: none, New: at("")}}
	back := []keydiff.Change{{Key: "a", Old: none, New: at("1")}, {Key: "b", Old: at("2"), New: at("1")}, {Key: "d", Old: at(""), New: none}}
	for _, x := range []struct {
		a, b string
		want []keydiff.Change
	}{{a, b, there}, {b, a, back}, {tagged, b, there}, {b, tagged, back}, {a, a, nil}, {a, tagged, nil}} {
		unchanged(t, "Diff", d, func() {
			if l, err := r.Diff(x.a, x.b); err != api.OK || !slices.Equal(l, x.want) {
				t.Errorf("Diff: %v, %d; want %v", l, err, x.want)
			}
		})
	}
	// The error of a comes first.
	k := ofAllKinds()
	plant(t, d, k.all()...)
	r = open(t, d)
	for _, x := range []struct {
		a, b string
		want api.Errno
	}{
		{idOf("none"), idOf(k.junk), api.ErrNone}, {idOf(k.junk), idOf("none"), api.ErrForm}, {a, idOf(k.tree), api.ErrKind},
		{idOf(k.tree), a, api.ErrKind}, {a, "", api.ErrArg}, {"", idOf("none"), api.ErrArg},
	} {
		if l, err := r.Diff(x.a, x.b); len(l) != 0 || err != x.want {
			t.Errorf("Diff: %v, %d; want %d", l, err, x.want)
		}
	}
}

// A tree of as many entries as it may have, which are all of the same long blob.
func TestManyAlike(t *testing.T) {
	long := noise(1, api.MaxBody)
	var fields []string
	for i := range 4096 {
		fields = append(fields, fmt.Sprintf("f%05d", i), idOf(blob(long)))
	}
	data := tree(fields...)
	c := commit(idOf(data), note(1))
	d := disk(t, 4096)
	ok(t, "Init", repo.Init(d, 20))
	plant(t, d, blob(long), data, c)
	r := open(t, d)
	contains(t, "alike", r, idOf(c), alike(4096, long))
	if l, err := r.Diff(idOf(c), idOf(c)); len(l) != 0 || err != api.OK {
		t.Errorf("Diff: %d changes, %d", len(l), err)
	}
}

// P6: whatever is written to sectors, what is read has the digest that was requested, or there is an error.
func TestSpoiled(t *testing.T) {
	r, d := fresh(t, 60, 20)
	a := committed(t, r, 1, "a", noise(1, 700), "b", "x")
	b := committed(t, r, 2, "a", noise(1, 701), "b", "x")
	ok(t, "Repack", r.Repack())
	c := committed(t, r, 3, "b", noise(2, 600))
	want := map[string][]keydiff.Item{}
	for _, id := range []string{a, b, c} {
		l, err := r.Files(id)
		ok(t, "Files", err)
		want[id] = l
	}
	seen := map[api.Errno]int{}
	sectors := content(t, d)
	for i, old := range sectors {
		for _, at := range []int{0, 50, 400} {
			x := []byte(old)
			x[at] ^= 4
			ok(t, "Spoil", d.Spoil(i, string(x)))
			r, err := repo.Open(d)
			if seen[err]++; err == api.OK {
				faults := len(r.Check())
				for id, l := range want {
					got, err := r.Files(id)
					if err == api.OK && !slices.Equal(got, l) || err != api.OK && (len(got) > 0 || faults == 0 && id != a) {
						t.Errorf("sector %d: Files: %.100q, %d", i, got, err)
					}
					seen[err]++
				}
			}
			ok(t, "Spoil", d.Spoil(i, old))
		}
	}
	if seen[api.OK] < 50 || seen[api.ErrCorrupt] < 10 {
		t.Errorf("%v", seen)
	}
}

// An object of which one byte is another one is not the object of its ID.
func TestNotCanonical(t *testing.T) {
	long := "\x03" + nums.Join(idOf(tree()), "", "me", "why", "\x80\x01")
	r, d := planted(t, tree(), long)
	unread(t, "a time with more bytes than it has", r, d, idOf(long), api.ErrForm, api.ErrForm)
	is(t, "Branch", r.Branch("heads/a", idOf(long)), api.ErrForm)
	is(t, "Tag", r.Tag("tags/a", idOf(long), ""), api.ErrForm)
	is(t, "Update", r.Update([]names.Update{{Name: "tags/a", New: idOf(long)}}), api.ErrForm)
}
