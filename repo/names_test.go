package repo_test

import (
	"strings"
	"testing"

	"stemma/api"
	"stemma/names"
	"stemma/repo"
	"stemma/sector"
)

// P24.3

// kinds are texts of all kinds of objects, and of none: a commit and a tag of it among them.
type kinds struct{ blob, tree, commit, tag, junk string }

// all returns the texts.
func (k kinds) all() []string { return []string{k.blob, k.tree, k.commit, k.tag, k.junk} }

// ofAllKinds returns some texts.
func ofAllKinds() kinds {
	k := kinds{blob: blob("x"), junk: "no object"}
	k.tree = tree("a", idOf(k.blob))
	k.commit = commit(idOf(k.tree), note(1))
	k.tag = tag(idOf(k.commit), "v", "")
	return k
}

// changes says that a call of a repository must have applied updates and a head to its table, or have an error and change nothing.
func changes(t *testing.T, what string, r *repo.Repo, d *sector.Disk, do func() api.Errno, want api.Errno, head string, l ...names.Update) {
	t.Helper()
	before := r.Refs()
	after := before
	if want == api.OK && (head != "" || len(l) > 0) {
		var err api.Errno
		after, err = before.Apply(l, head)
		ok(t, what+": Apply", err)
		is(t, what, do(), want)
	} else {
		unchanged(t, what, d, func() { is(t, what, do(), want) })
	}
	if x := r.Refs(); !sameTable(x, after) {
		t.Errorf("%s: %s, want %s", what, shown(x), shown(after))
	}
	if x := open(t, d).Refs(); !sameTable(x, after) {
		t.Errorf("%s, opened again: %s, want %s", what, shown(x), shown(after))
	}
}

// corrupt is the ID of a text whose file has another one; wrong stores that.
var corrupt = idOf("corrupt")

func wrong(t *testing.T, d *sector.Disk) *repo.Repo {
	t.Helper()
	ok(t, "Write", beneath(t, d).f.Write(looseName(corrupt), "x"))
	return open(t, d)
}

// notCommits are the errors of IDs as a Commit.
func notCommits(k kinds) map[string]api.Errno {
	return map[string]api.Errno{
		"": api.ErrArg, "no ID": api.ErrArg, idOf(k.commit)[1:]: api.ErrArg, idOf(k.commit) + "x": api.ErrArg,
		idOf("none"): api.ErrNone, corrupt: api.ErrCorrupt, idOf(k.junk): api.ErrForm,
		idOf(k.blob): api.ErrKind, idOf(k.tree): api.ErrKind, idOf(k.tag): api.ErrKind,
	}
}

// wrongNames are none of references.
func wrongNames() []string {
	return []string{"", "heads", "heads/", "a", "/a", "heads/a..b", "heads/.a", "heads/a.", "heads/A", "heads//a", "heads/a b", "remotes/a", "tags/", "tags/a/", "heads/" + strings.Repeat("a", 59)}
}

func TestBranch(t *testing.T) {
	k := ofAllKinds()
	r, d := planted(t, k.all()...)
	r = wrong(t, d)
	id := idOf(k.commit)
	branch := func(name, id string) func() api.Errno { return func() api.Errno { return r.Branch(name, id) } }
	for _, name := range append(wrongNames(), "tags/a", "tags/v") {
		changes(t, "Branch "+name, r, d, branch(name, id), api.ErrName, "")
		changes(t, "Branch "+name, r, d, branch(name, "no ID"), api.ErrName, "")
	}
	for x, want := range notCommits(k) {
		changes(t, "Branch", r, d, branch("heads/a", x), want, "")
	}
	longest := "heads/" + strings.Repeat("a", 58)
	for _, name := range []string{"heads/a", "heads/a/b.c", longest, "heads/main"} {
		changes(t, "Branch "+name, r, d, branch(name, id), api.OK, "", names.Update{Name: name, New: id})
	}
	for _, name := range []string{"heads/a", longest, "heads/main"} {
		changes(t, "Branch "+name+" again", r, d, branch(name, id), api.ErrStale, "")
		for x, want := range notCommits(k) {
			changes(t, "Branch "+name+" again, of no commit", r, d, branch(name, x), want, "")
		}
	}
}

func TestTag(t *testing.T) {
	k := ofAllKinds()
	r, d := planted(t, k.all()...)
	r = wrong(t, d)
	id := idOf(k.commit)
	tags := func(name, id, text string) func() api.Errno {
		return func() api.Errno { return r.Tag(name, id, text) }
	}
	long := strings.Repeat("x", 4097)
	for _, name := range append(wrongNames(), "heads/a", "heads/main") {
		changes(t, "Tag "+name, r, d, tags(name, id, ""), api.ErrName, "")
		changes(t, "Tag "+name, r, d, tags(name, "no ID", long), api.ErrName, "")
	}
	for x, want := range notCommits(k) {
		changes(t, "Tag", r, d, tags("tags/a", x, ""), want, "")
		changes(t, "Tag", r, d, tags("tags/a", x, long), want, "")
	}
	changes(t, "a long text", r, d, tags("tags/a", id, long), api.ErrArg, "")
	for _, x := range []struct{ name, part, text string }{
		{"tags/a", "a", ""}, {"tags/a/b.c", "b.c", "why"}, {"tags/" + strings.Repeat("t", 59), strings.Repeat("t", 59), long[1:]}, {"tags/heads/a", "a", ""},
	} {
		data := tag(id, x.part, x.text)
		changes(t, "Tag "+x.name, r, d, tags(x.name, id, x.text), api.OK, "", names.Update{Name: x.name, New: idOf(data)})
		if y := text(t, d, idOf(data)); y != data {
			t.Errorf("the object of %s: %q", x.name, y)
		}
		contains(t, x.name, r, idOf(data), files("a", "x"))
		changes(t, "Tag "+x.name+" again", r, d, tags(x.name, id, x.text), api.ErrStale, "")
		changes(t, "Tag "+x.name+" again, with another text", r, d, tags(x.name, id, x.text+"x"), api.ErrStale, "")
		changes(t, "Tag "+x.name+" again, with a long text", r, d, tags(x.name, id, long), api.ErrStale, "")
		changes(t, "Tag "+x.name+" again, of no commit", r, d, tags(x.name, idOf(k.tag), long), api.ErrKind, "")
	}
	// The tag itself may be there already.
	ok(t, "Update", r.Update([]names.Update{{Name: "tags/a", Old: idOf(tag(id, "a", ""))}}))
	changes(t, "Tag after the removal", r, d, tags("tags/a", id, ""), api.OK, "", names.Update{Name: "tags/a", New: idOf(tag(id, "a", ""))})
	sound(t, "tagged", wrongless(t, d))
}

// wrongless removes what wrong has stored.
func wrongless(t *testing.T, d *sector.Disk) *repo.Repo {
	t.Helper()
	ok(t, "Remove", beneath(t, d).f.Remove(looseName(corrupt)))
	return open(t, d)
}

func TestUpdate(t *testing.T) {
	k := ofAllKinds()
	r, d := planted(t, k.all()...)
	r = wrong(t, d)
	id, tagID, none := idOf(k.commit), idOf(k.tag), idOf("none")
	update := func(l ...names.Update) func() api.Errno { return func() api.Errno { return r.Update(l) } }
	create := func(name, id string) names.Update { return names.Update{Name: name, New: id} }
	refused := func(what string, want api.Errno, l ...names.Update) {
		t.Helper()
		changes(t, what, r, d, update(l...), want, "")
	}
	applied := func(what string, l ...names.Update) {
		t.Helper()
		changes(t, what, r, d, update(l...), api.OK, "", l...)
	}

	// The errors of layer 16 come first.
	bad := create("heads/bad", none)
	refused("nothing", api.ErrArg)
	for _, name := range wrongNames() {
		refused("the name "+name, api.ErrName, create(name, id))
		refused("the name "+name, api.ErrName, bad, create(name, id))
	}
	refused("twice", api.ErrArg, bad, bad)
	refused("no ID", api.ErrArg, bad, create("heads/a", "no ID"))
	refused("no change", api.ErrArg, bad, names.Update{Name: "heads/a", Old: id, New: id})
	refused("no change", api.ErrArg, bad, names.Update{Name: "heads/a"})
	refused("stale", api.ErrStale, bad, names.Update{Name: "heads/a", Old: id})
	refused("stale", api.ErrStale, names.Update{Name: "heads/a", Old: none, New: id})

	// Then those of what is named, in order.
	for x, want := range notCommits(k) {
		if len(x) != 32 {
			continue
		}
		refused("a branch", want, create("heads/a", x))
		refused("a branch, behind another", want, create("heads/b", id), create("heads/a", x))
		refused("a branch, ahead of another", want, create("heads/b", x), create("heads/a", idOf("also none")))
		refused("a branch, behind a tag", want, create("tags/b", tagID), create("heads/a", x), create("heads/b", idOf(k.junk)))
		if x != tagID {
			refused("a tag", want, create("tags/a", x))
		}
	}
	applied("one", create("heads/a", id))
	applied("several", create("tags/c", id), create("heads/b", id), create("tags/b", tagID))
	applied("a tag that moves, a branch that goes", names.Update{Name: "tags/c", Old: id, New: tagID}, names.Update{Name: "heads/b", Old: id})
	refused("a removal, and a wrong one", api.ErrNone, names.Update{Name: "tags/c", Old: tagID}, names.Update{Name: "heads/a", Old: id, New: none})
	refused("a removal, and a wrong kind", api.ErrKind, names.Update{Name: "tags/c", Old: tagID}, names.Update{Name: "heads/a", Old: id, New: tagID})
	applied("all", names.Update{Name: "tags/c", Old: tagID}, names.Update{Name: "heads/a", Old: id}, names.Update{Name: "tags/b", Old: tagID})
}

// What an update takes away needn't be there.
func TestUpdateOfMissing(t *testing.T) {
	k := ofAllKinds()
	_, d := planted(t, k.all()...)
	none := idOf("none")
	referring(t, d, names.Table{Head: "heads/x", Refs: []names.Ref{{Name: "heads/x", ID: none}, {Name: "tags/x", ID: idOf(k.blob)}}})
	r := open(t, d)
	l := []names.Update{{Name: "heads/x", Old: none, New: idOf(k.commit)}, {Name: "tags/x", Old: idOf(k.blob)}}
	changes(t, "what is missing", r, d, func() api.Errno { return r.Update(l) }, api.OK, "", l...)
}

func TestSwitch(t *testing.T) {
	r, d := fresh(t, 100, 30)
	switched := func(name string) func() api.Errno { return func() api.Errno { return r.Switch(name) } }
	for _, name := range append(wrongNames(), "tags/a") {
		changes(t, "Switch to "+name, r, d, switched(name), api.ErrName, "")
	}
	changes(t, "to the head, which is no reference", r, d, switched("heads/main"), api.ErrNone, "")
	changes(t, "to none", r, d, switched("heads/a"), api.ErrNone, "")
	id := committed(t, r, 1, "a", "x")
	ok(t, "Branch", r.Branch("heads/a", id))
	ok(t, "Tag", r.Tag("tags/a", id, ""))
	changes(t, "to a tag", r, d, switched("tags/a"), api.ErrName, "")
	changes(t, "to the head", r, d, switched("heads/main"), api.OK, "")
	changes(t, "to another", r, d, switched("heads/a"), api.OK, "heads/a")
	changes(t, "to the head", r, d, switched("heads/a"), api.OK, "")
	changes(t, "to none", r, d, switched("heads/b"), api.ErrNone, "")
	ok(t, "Update", r.Update([]names.Update{{Name: "heads/main", Old: id}}))
	changes(t, "to what is gone", r, d, switched("heads/main"), api.ErrNone, "")
	ok(t, "Update", r.Update([]names.Update{{Name: "heads/a", Old: id}}))
	changes(t, "to the head, which is gone", r, d, switched("heads/a"), api.ErrNone, "")
	// A commit brings the head's branch back.
	again := committed(t, r, 2)
	refers(t, "committed", r, "heads/a", again)
	changes(t, "to the head", r, d, switched("heads/a"), api.OK, "")
}

// Without space nothing of the table changes.
func TestNamesWithoutSpace(t *testing.T) {
	r, d := fresh(t, 22, 5) // 10 data units
	id := committed(t, r, 1, "a", noise(1, 2900))
	full := func(what string, do func() api.Errno) {
		t.Helper()
		before := r.Refs()
		is(t, what, do(), api.ErrSpace)
		if x := r.Refs(); !sameTable(x, before) {
			t.Errorf("%s: %s", what, shown(x))
		}
		if x := open(t, d).Refs(); !sameTable(x, before) {
			t.Errorf("%s, opened again: %s", what, shown(x))
		}
	}
	full("a tag for which there are not enough units", func() api.Errno { return r.Tag("tags/a", id, strings.Repeat("x", 500)) })
	ok(t, "Tag", r.Tag("tags/a", id, ""))
	full("a tag for which there is no entry", func() api.Errno { return r.Tag("tags/b", id, "") })
	ok(t, "Branch", r.Branch("heads/b", id))
	// Till the file of the references would need another unit.
	n := 0
	for ; ; n++ {
		name := []string{"heads/b", "heads/main"}[n%2]
		if before := r.Refs(); r.Switch(name) != api.OK {
			if x := r.Refs(); !sameTable(x, before) {
				t.Errorf("Switch: %s", shown(x))
			}
			full("Switch", func() api.Errno { return r.Switch(name) })
			break
		}
	}
	if n < 5 {
		t.Errorf("%d switches", n)
	}
	full("Branch", func() api.Errno { return r.Branch("heads/a", id) })
	full("Update", func() api.Errno { return r.Update([]names.Update{{Name: "heads/b", Old: id}}) })
	sound(t, "full", open(t, d))
}
