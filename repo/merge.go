package repo

import (
	"stemma/api"
	"stemma/keydiff"
	"stemma/names"
	"stemma/treemerge"
)

// Merge a branch into that of the head; with ErrConflict it returns what can't be merged.
func (r *Repo) Merge(name string, n Note) (string, []treemerge.Conflict, api.Errno) {
	p, conflicts, err := r.mergePlan(name, n)
	if err != api.OK {
		return "", conflicts, err
	}
	id, err := r.carryOut(p)
	return id, nil, err
}

// PlanMerge returns the ID that Merge would return.
func (r *Repo) PlanMerge(name string, n Note) (string, api.Errno) {
	p, _, err := r.mergePlan(name, n)
	if err != api.OK {
		return "", err
	}
	return r.foretell(p)
}

// mergePlan returns what a Merge is to do, or the conflicts.
func (r *Repo) mergePlan(name string, n Note) (plan, []treemerge.Conflict, api.Errno) {
	if err := r.usable(); err != api.OK {
		return plan{}, nil, err
	}
	ours, theirs, err := r.sides(name)
	if err != api.OK {
		return plan{}, nil, err
	}
	g, err := r.history(ours, theirs)
	if err != api.OK {
		return plan{}, nil, err
	}
	switch {
	case g.Ancestor(theirs, ours):
		return plan{id: ours}, nil, api.OK
	case g.Ancestor(ours, theirs):
		return plan{id: theirs}, nil, api.OK
	}
	files, conflicts, err := r.mergeFiles(ours, theirs, g.Bases(ours, theirs))
	if err != api.OK {
		return plan{}, conflicts, err
	}
	p, err := planOf(files, n, ours, theirs)
	return p, nil, err
}

// sides returns the commits of the head and of a branch.
func (r *Repo) sides(name string) (ours, theirs string, err api.Errno) {
	if !names.Branch(name) {
		return "", "", api.ErrName
	}
	t := r.refs.Table()
	ours, here := t.Get(t.Head)
	theirs, there := t.Get(name)
	if !here || !there {
		return "", "", api.ErrNone
	}
	return ours, theirs, api.OK
}

// mergeFiles returns the files of two commits as one, or the conflicts; bases are the commits' best common ancestors.
func (r *Repo) mergeFiles(ours, theirs string, bases []string) ([]keydiff.Item, []treemerge.Conflict, api.Errno) {
	our, err := r.filesOf(ours)
	if err != api.OK {
		return nil, nil, err
	}
	their, err := r.filesOf(theirs)
	if err != api.OK {
		return nil, nil, err
	}
	var base []keydiff.Item
	if len(bases) > 0 {
		if base, err = r.filesOf(bases[0]); err != api.OK {
			return nil, nil, err
		}
	}
	files, conflicts, err := treemerge.Merge(base, our, their)
	if len(conflicts) > 0 {
		return nil, conflicts, api.ErrConflict
	}
	return files, nil, err
}
