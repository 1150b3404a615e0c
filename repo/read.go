package repo

import (
	"slices"

	"stemma/api"
	"stemma/graph"
	"stemma/keydiff"
	"stemma/object"
	"stemma/sweep"
)

// read returns the object of an ID, which must be of one of these kinds.
func (r *Repo) read(id string, kinds ...int) (object.Object, api.Errno) {
	text, err := r.shelf.Get(id)
	if err != api.OK {
		return object.Object{}, err
	}
	o, err := object.Decode(text)
	if err != api.OK {
		return object.Object{}, api.ErrForm
	}
	if !slices.Contains(kinds, o.Kind) {
		return object.Object{}, api.ErrKind
	}
	return o, api.OK
}

// commitOf returns the commit of an ID, which may be that of a tag, and the commit's own ID.
func (r *Repo) commitOf(id string) (object.Object, string, api.Errno) {
	o, err := r.read(id, object.Commit, object.Tag)
	if o.Kind == object.Tag {
		id = o.Target
		o, err = r.read(id, object.Commit)
	}
	return o, id, err
}

// Files returns those of a commit, or of a tag's commit.
func (r *Repo) Files(id string) ([]keydiff.Item, api.Errno) {
	if err := r.usable(); err != api.OK {
		return nil, err
	}
	return r.filesOf(id)
}

// filesOf is Files of a repository that is usable.
func (r *Repo) filesOf(id string) ([]keydiff.Item, api.Errno) {
	commit, _, err := r.commitOf(id)
	if err != api.OK {
		return nil, err
	}
	tree, err := r.read(commit.Tree, object.Tree)
	if err != api.OK {
		return nil, err
	}
	return r.contents(tree.Entries)
}

// contents returns the files of a tree's entries.
func (r *Repo) contents(entries []object.Entry) ([]keydiff.Item, api.Errno) {
	var files []keydiff.Item
	read := map[string]int{} // which file has a blob's content: a small disk may have a tree of thousands of large files that are alike
	for i, e := range entries {
		at, known := read[e.ID]
		if known {
			files = append(files, keydiff.Item{Key: e.Name, Value: files[at].Value})
			continue
		}
		blob, err := r.read(e.ID, object.Blob)
		if err != api.OK {
			return nil, err
		}
		read[e.ID] = i
		files = append(files, keydiff.Item{Key: e.Name, Value: blob.Body})
	}
	return files, api.OK
}

// Log returns the IDs of a commit, or a tag's commit, and of all commits before it, the latest first.
func (r *Repo) Log(id string) ([]string, api.Errno) {
	if err := r.usable(); err != api.OK {
		return nil, err
	}
	_, commit, err := r.commitOf(id)
	if err != api.OK {
		return nil, err
	}
	g, err := r.history(commit)
	if err != api.OK {
		return nil, err
	}
	return g.Log(commit), api.OK
}

// history returns the graph of these commits, and of all before them.
func (r *Repo) history(ids ...string) (*graph.Graph, api.Errno) {
	nodes, err := sweep.Commits(r.shelf, ids)
	if err != api.OK {
		return nil, err
	}
	return graph.New(nodes)
}

// Diff returns what makes the files of b of those of a.
func (r *Repo) Diff(a, b string) ([]keydiff.Change, api.Errno) {
	if err := r.usable(); err != api.OK {
		return nil, err
	}
	before, err := r.filesOf(a)
	if err != api.OK {
		return nil, err
	}
	after, err := r.filesOf(b)
	if err != api.OK {
		return nil, err
	}
	return keydiff.Diff(before, after)
}
