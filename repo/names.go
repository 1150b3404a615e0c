package repo

import (
	"strings"

	"stemma/api"
	"stemma/names"
	"stemma/object"
)

// Branch makes a branch that refers to a commit.
func (r *Repo) Branch(name, id string) api.Errno {
	if err := r.usable(); err != api.OK {
		return err
	}
	if !names.Branch(name) {
		return api.ErrName
	}
	if _, err := r.read(id, object.Commit); err != api.OK {
		return err
	}
	return r.create(name, id)
}

// create makes a reference.
func (r *Repo) create(name, id string) api.Errno {
	return r.refs.Update([]names.Update{{Name: name, New: id}}, "")
}

// Tag makes a tag of a commit, and a reference to it.
func (r *Repo) Tag(name, id, text string) api.Errno {
	if err := r.usable(); err != api.OK {
		return err
	}
	if !mayBeTag(name) {
		return api.ErrName
	}
	if _, err := r.read(id, object.Commit); err != api.OK {
		return err
	}
	if _, exists := r.refs.Table().Get(name); exists {
		return api.ErrStale
	}
	tag, err := r.put(tagged(name, id, text))
	if err != api.OK {
		return err
	}
	return r.create(name, tag)
}

// TagOf returns the ID of the tag that Tag makes.
func TagOf(name, id, text string) (string, api.Errno) {
	if !mayBeTag(name) {
		return "", api.ErrName
	}
	return idOf(tagged(name, id, text))
}

// mayBeTag reports whether the reference to a tag may have that name.
func mayBeTag(name string) bool { return names.Good(name) && !names.Branch(name) }

// tagged returns the tag to which a reference of that name is to refer.
func tagged(name, id, text string) object.Object {
	return object.Object{Kind: object.Tag, Target: id, Name: name[strings.LastIndexByte(name, '/')+1:], Text: text}
}

// Update references, all together.
func (r *Repo) Update(l []names.Update) api.Errno {
	if err := r.usable(); err != api.OK {
		return err
	}
	if _, err := r.refs.Table().Apply(l, ""); err != api.OK {
		return err
	}
	for _, u := range l {
		if u.New == "" {
			continue
		}
		if _, err := r.read(u.New, kindsFor(u.Name)...); err != api.OK {
			return err
		}
	}
	return r.refs.Update(l, "")
}

// kindsFor returns the kinds of the objects to which a reference of that name may refer.
func kindsFor(name string) []int {
	if names.Branch(name) {
		return []int{object.Commit}
	}
	return []int{object.Commit, object.Tag}
}

// Switch makes a branch the head.
func (r *Repo) Switch(name string) api.Errno {
	if err := r.usable(); err != api.OK {
		return err
	}
	if !names.Branch(name) {
		return api.ErrName
	}
	t := r.refs.Table()
	if _, exists := t.Get(name); !exists {
		return api.ErrNone
	}
	if name == t.Head {
		return api.OK
	}
	return r.refs.Update(nil, name)
}
