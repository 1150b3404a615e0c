package repo

import (
	"slices"

	"stemma/api"
	"stemma/keydiff"
	"stemma/names"
	"stemma/object"
	"stemma/rules"
)

// Note of a commit: who, what for, when.
type Note struct {
	Author, Text string
	Time         int
}

// plan is what a Commit or a Merge is to do: as long as there is one, nothing is done.
type plan struct {
	objects []object.Object // that are put, in this order
	id      string          // to which the head's branch is to refer: that of the last object, if there are any
}

// Commit files to the head's branch.
func (r *Repo) Commit(files []keydiff.Item, n Note) (string, api.Errno) {
	p, err := r.commitPlan(files, n)
	if err != api.OK {
		return "", err
	}
	return r.carryOut(p)
}

// Plan returns the ID that Commit would return.
func (r *Repo) Plan(files []keydiff.Item, n Note) (string, api.Errno) {
	p, err := r.commitPlan(files, n)
	if err != api.OK {
		return "", err
	}
	return r.foretell(p)
}

// commitPlan returns what a Commit is to do.
func (r *Repo) commitPlan(files []keydiff.Item, n Note) (plan, api.Errno) {
	if err := r.usable(); err != api.OK {
		return plan{}, err
	}
	var parents []string
	t := r.refs.Table()
	if id, ok := t.Get(t.Head); ok {
		parents = append(parents, id)
	}
	return planOf(files, n, parents...)
}

// planOf returns what stores files as a commit with these parents.
func planOf(files []keydiff.Item, n Note, parents ...string) (plan, api.Errno) {
	if err := refuses(files); err != api.OK {
		return plan{}, err
	}
	var p plan
	tree := object.Object{Kind: object.Tree}
	for _, f := range files {
		if err := p.add(object.Object{Kind: object.Blob, Body: f.Value}); err != api.OK {
			return plan{}, err
		}
		tree.Entries = append(tree.Entries, object.Entry{Name: f.Key, ID: p.id})
	}
	if err := p.add(tree); err != api.OK {
		return plan{}, err
	}
	commit := object.Object{Kind: object.Commit, Tree: p.id, Parents: parents, Author: n.Author, Text: n.Text, Time: n.Time}
	if err := p.add(commit); err != api.OK {
		return plan{}, err
	}
	return p, api.OK
}

// refuses returns what is wrong with files that are to be committed; OK if nothing is.
func refuses(files []keydiff.Item) api.Errno {
	if !keydiff.Right(files) {
		return api.ErrOrder
	}
	if slices.ContainsFunc(files, func(f keydiff.Item) bool { return !object.Good(f.Key) }) {
		return api.ErrName
	}
	for _, f := range files {
		if _, err := rules.Check(rules.Kind(f.Key), f.Value); err != api.OK {
			return err
		}
	}
	return api.OK
}

// add puts an object behind the others. Only its ID is kept beside it: the texts of all together may be large.
func (p *plan) add(o object.Object) api.Errno {
	id, err := idOf(o)
	p.objects, p.id = append(p.objects, o), id
	return err
}

// idOf returns the ID of an object.
func idOf(o object.Object) (string, api.Errno) {
	text, err := object.Encode(o)
	if err != api.OK {
		return "", err
	}
	return object.ID(text), api.OK
}

// put stores an object, and returns its ID.
func (r *Repo) put(o object.Object) (string, api.Errno) {
	text, err := object.Encode(o)
	if err != api.OK {
		return "", err
	}
	return r.shelf.Put(text)
}

// carryOut does what a plan says, and returns its ID.
func (r *Repo) carryOut(p plan) (string, api.Errno) {
	for _, o := range p.objects {
		if _, err := r.put(o); err != api.OK {
			return "", err
		}
	}
	// Only now: whatever a reference names must be there.
	if l := r.updates(p); len(l) > 0 {
		if err := r.refs.Update(l, ""); err != api.OK {
			return "", err
		}
	}
	return p.id, api.OK
}

// updates returns those of the head's branch that a plan asks for: one, or none if it refers to the plan's ID already.
func (r *Repo) updates(p plan) []names.Update {
	t := r.refs.Table()
	old, _ := t.Get(t.Head)
	if old == p.id {
		return nil
	}
	return []names.Update{{Name: t.Head, Old: old, New: p.id}}
}

// foretell returns what carryOut would if there is enough space.
func (r *Repo) foretell(p plan) (string, api.Errno) {
	if l := r.updates(p); len(l) > 0 {
		t, err := r.refs.Table().Apply(l, "")
		if err != api.OK {
			return "", err
		}
		// Layer 17 refuses a table that takes more than a frame has room for.
		if len(names.Encode(t)) > api.MaxBody {
			return "", api.ErrLong
		}
	}
	return p.id, api.OK
}
