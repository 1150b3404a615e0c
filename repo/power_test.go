package repo_test

import (
	"testing"

	"stemma/api"
	"stemma/names"
	"stemma/repo"
	"stemma/sector"
	"stemma/treemerge"
)

// P24.8, P3, P4

// keeps are some ways to keep writes.
var keeps = [][]int{nil, {1}, {1, 0}, {0, 1}, {0, 0, 1}, {1, 1, 0}}

// cuts makes a call with the power cut ahead of each of its commands, in each way to keep writes, on a disk with those
// sectors, until it isn't cut any more; then tells what is left, and how the call ended.
func cuts(t *testing.T, d *sector.Disk, sectors []string, call func(t *testing.T) api.Errno, then func(left []string, err api.Errno)) {
	t.Helper()
	for _, keep := range keeps {
		for n := 1; ; n++ {
			lay(d, sectors)
			// What the call opens ahead of its work has nothing to write.
			d.Cut(n, keep...)
			err := call(t)
			cut := d.Off()
			d.On()
			if cut != (err == api.ErrPower) {
				t.Errorf("command %d: error %d", n, err)
			}
			then(content(t, d), err)
			if !cut {
				break
			}
		}
	}
}

// busy returns a disk whose repository has branches that differ, tags, and objects in files and in a pack.
func busy(t *testing.T) *sector.Disk {
	t.Helper()
	r, d := fresh(t, 200, 60)
	a := committed(t, r, 1, "a.merges", "a b\n", "b", noise(1, 600))
	ok(t, "Branch", r.Branch("heads/b", a))
	ok(t, "Tag", r.Tag("tags/v1", a, "why"))
	ok(t, "Switch", r.Switch("heads/b"))
	committed(t, r, 2, "a.merges", "a b\nb c\n", "b", noise(1, 600))
	ok(t, "Repack", r.Repack())
	b := committed(t, r, 3, "a.merges", "a b\nb c\n", "b", noise(1, 600), "c", noise(2, 700))
	ok(t, "Branch", r.Branch("heads/later", b))
	ok(t, "Switch", r.Switch("heads/main"))
	committed(t, r, 4, "a.merges", "x y\na b\n", "b", noise(1, 600))
	ok(t, "Branch", r.Branch("heads/gone", a))
	ok(t, "Update", r.Update([]names.Update{{Name: "heads/gone", Old: a}}))
	plant(t, d, "lost")
	return d
}

// after is the table that a call makes; a call that was not cut made it on a disk of its own.
func after(t *testing.T, sectors []string, do func(r *repo.Repo) api.Errno) (names.Table, api.Errno) {
	t.Helper()
	d := disk(t, len(sectors))
	lay(d, sectors)
	r := open(t, d)
	err := do(r)
	return r.Refs(), err
}

// Whenever the power fails in a call, and in the Opens after it, the call was executed as a whole or not at all, and what is known has its files.
func TestAllOrNothing(t *testing.T) {
	d := busy(t)
	sectors := content(t, d)
	r := open(t, d)
	table := r.Refs()
	main, _ := table.Get("heads/main")
	b, _ := table.Get("heads/b")
	v1, _ := table.Get("tags/v1")
	merge := func(r *repo.Repo, name string) api.Errno {
		_, _, err := r.Merge(name, note(9))
		return err
	}
	for what, do := range map[string]func(r *repo.Repo) api.Errno{
		"Commit": func(r *repo.Repo) api.Errno {
			_, err := r.Commit(files("a.merges", "x y\n", "b", noise(3, 1200), "d", ""), note(9))
			return err
		},
		"Commit of what is there": func(r *repo.Repo) api.Errno {
			_, err := r.Commit(files("b", noise(1, 600)), note(9))
			return err
		},
		"Branch": func(r *repo.Repo) api.Errno { return r.Branch("heads/new", b) },
		"Tag":    func(r *repo.Repo) api.Errno { return r.Tag("tags/new", b, "new") },
		"Update": func(r *repo.Repo) api.Errno {
			return r.Update([]names.Update{{Name: "heads/main", Old: main, New: b}, {Name: "heads/b", Old: b, New: main}, {Name: "tags/v1", Old: v1}, {Name: "tags/v2", New: v1}})
		},
		"Switch":  func(r *repo.Repo) api.Errno { return r.Switch("heads/b") },
		"Merge":   func(r *repo.Repo) api.Errno { return merge(r, "heads/b") },
		"Repack":  (*repo.Repo).Repack,
		"Collect": (*repo.Repo).Collect,
	} {
		t.Run(what, func(t *testing.T) { allOrNothing(t, d, sectors, do) })
	}
	// The head is behind: its branch moves.
	lay(d, sectors)
	r = open(t, d)
	ok(t, "Branch", r.Branch("heads/old", mustLast(t, r, main)))
	ok(t, "Switch", r.Switch("heads/old"))
	t.Run("Merge forward", func(t *testing.T) {
		allOrNothing(t, d, content(t, d), func(r *repo.Repo) api.Errno { return merge(r, "heads/main") })
	})
}

// mustLast returns the oldest commit of a log.
func mustLast(t *testing.T, r *repo.Repo, id string) string {
	t.Helper()
	l, err := r.Log(id)
	ok(t, "Log", err)
	return l[len(l)-1]
}

// allOrNothing says so of a call on a disk with those sectors.
func allOrNothing(t *testing.T, d *sector.Disk, sectors []string, do func(r *repo.Repo) api.Errno) {
	lay(d, sectors)
	r := open(t, d)
	before := r.Refs()
	want := known(r, before)
	afterwards, err := after(t, sectors, do)
	ok(t, "the call", err)
	moves := !sameTable(before, afterwards)
	outcomes := map[bool]int{}
	call := func(t *testing.T) api.Errno { return do(open(t, d)) }
	cuts(t, d, sectors, call, func(left []string, err api.Errno) {
		r := open(t, d)
		end := r.Refs()
		all := sameTable(end, afterwards)
		if !all && !sameTable(end, before) {
			t.Errorf("neither all nor nothing: %s", shown(end))
		}
		if err == api.OK && !all {
			t.Errorf("it returned OK: %s", shown(end))
		}
		outcomes[all]++
		kept(t, "opened again", r, want)
		sound(t, "opened again", r)
		now := known(r, end)
		if !opens(t, d) {
			return // there is nothing that could be broken off
		}
		lay(d, left)
		cuts(t, d, left, func(*testing.T) api.Errno { _, err := repo.Open(d); return err }, func(_ []string, _ api.Errno) {
			r := open(t, d)
			if x := r.Refs(); !sameTable(x, end) {
				t.Errorf("Open broken off: %s, want %s", shown(x), shown(end))
			}
			kept(t, "Open broken off", r, now)
		})
		lay(d, left)
		// Then the call can be made again, or what it did is there.
		if err := do(open(t, d)); err != api.OK && err != api.ErrStale || err == api.ErrStale && !all {
			t.Errorf("made again: %d", err)
		}
		r = open(t, d)
		kept(t, "made again", r, want)
		sound(t, "made again", r)
	})
	if moves && (outcomes[true] < 10 || outcomes[false] < 10) || len(outcomes) == 0 {
		t.Errorf("%d times all, %d times nothing", outcomes[true], outcomes[false])
	}
}

// opens reports whether an Open of a disk issues commands.
func opens(t *testing.T, d *sector.Disk) bool {
	t.Helper()
	n := commands(d)
	open(t, d)
	return commands(d) > n
}

// A call that has an error changes neither the table nor the files of what is known.
func TestErrorsChangeNothing(t *testing.T) {
	d := busy(t)
	r := open(t, d)
	main := committed(t, r, 9, "a.merges", "y z\n", "c", "other") // heads/b has another c
	table := r.Refs()
	want := known(r, table)
	for what, do := range map[string]func() api.Errno{
		"Commit": func() api.Errno { _, err := r.Commit(files("a.merges", "ab c\n"), note(1)); return err },
		"Branch": func() api.Errno { return r.Branch("heads/b", main) },
		"Tag":    func() api.Errno { return r.Tag("tags/v1", main, "other") },
		"Update": func() api.Errno {
			return r.Update([]names.Update{{Name: "tags/new", New: main}, {Name: "heads/new", New: idOf("none")}})
		},
		"Switch": func() api.Errno { return r.Switch("heads/none") },
		"Merge":  func() api.Errno { _, _, err := r.Merge("heads/b", note(1)); return err },
	} {
		unchanged(t, what, d, func() {
			if do() == api.OK {
				t.Errorf("%s returned OK", what)
			}
		})
		if x := r.Refs(); !sameTable(x, table) {
			t.Errorf("%s: %s", what, shown(x))
		}
		kept(t, what, r, want)
	}
}

// Two sides that change a rule in different ways: ErrConflict, and nothing has changed.
func TestBothChangeARule(t *testing.T) {
	r, d, a, _ := sided(t, files("x.rules", "a 1\n"), files("x.rules", "a 2\n"), files("x.rules", "a 3\n"))
	unmerged(t, "a rule", r, d, "heads/b", note(1), api.ErrConflict, treemerge.Conflict{Name: "x.rules", What: treemerge.Key, Items: []string{"a"}})
	refers(t, "a rule", r, "heads/main", a)
}

// An update for which the table is written anew, as the file of the references is full, is all or nothing too.
func TestRefsWrittenAnew(t *testing.T) {
	r, d := fresh(t, 300, 12)
	id := committed(t, r, 1, "a", "x")
	size := func() int {
		n, err := beneath(t, d).f.Size("refs")
		ok(t, "Size", err)
		return n
	}
	for i := range 26 * 26 {
		if size() > 8192-52 {
			break
		}
		ok(t, "Branch", r.Branch("heads/"+string(rune('a'+i%26))+string(rune('a'+i/26)), id))
	}
	long := "heads/zzzzzzzzzzzzzzzzzzzz"
	allOrNothing(t, d, content(t, d), func(r *repo.Repo) api.Errno { return r.Branch(long, id) })
	refers(t, "anew", open(t, d), long, id)
	if n := size(); n <= 8192 {
		t.Errorf("not written anew: %d bytes", n)
	}
}
