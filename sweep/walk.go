package sweep

import (
	"slices"
	"strings"

	"stemma/api"
	"stemma/object"
	"stemma/shelf"
)

// visit is what a walk knows of an ID that it came to. The object itself is not kept: what a small disk has in packs can be more than the memory takes.
type visit struct {
	code     api.Errno // of reading the object
	kind     int       // of the object; if there is none, 0
	required uint      // bit k is set if the object is to be of kind k
	parents  []string  // of a commit
	time     int       // of a commit
}

// err returns the error of the ID.
func (x *visit) err() api.Errno {
	if x.code == api.OK && x.required&^(1<<x.kind) != 0 {
		return api.ErrKind
	}
	return x.code
}

// walk goes from some IDs to all that is reachable from them.
type walk struct {
	shelf *shelf.Shelf
	found map[string]*visit
	ids   []string // of found
}

// walkFrom returns a walk that has come to all that is reachable from roots.
func walkFrom(s *shelf.Shelf, roots []string) *walk {
	w := &walk{shelf: s, found: map[string]*visit{}}
	for _, id := range roots {
		w.come(id)
	}
	for i := 0; i < len(w.ids); i++ {
		w.look(w.ids[i])
	}
	slices.Sort(w.ids)
	return w
}

// come returns what is known of an ID that is reachable.
func (w *walk) come(id string) *visit {
	if x, ok := w.found[id]; ok {
		return x
	}
	// A Link is part of the text of the object that has it: kept as it is, it would keep all of that.
	id = strings.Clone(id)
	x := &visit{}
	w.found[id] = x
	w.ids = append(w.ids, id)
	return x
}

// look reads the object of an ID, and comes to its Links: they are reachable whether it is of the required kind or not.
func (w *walk) look(id string) {
	x := w.found[id]
	o, err := w.read(id)
	if err != api.OK {
		x.code = err
		return
	}
	x.kind, x.parents, x.time = o.Kind, o.Parents, o.Time
	for i, link := range object.Links(o) {
		w.come(link).required |= 1 << kindOfLink(o.Kind, i)
	}
}

// read returns the object of an ID.
func (w *walk) read(id string) (object.Object, api.Errno) {
	text, err := w.shelf.Get(id)
	if err != api.OK {
		return object.Object{}, err
	}
	o, err := object.Decode(text)
	if err != api.OK {
		return object.Object{}, api.ErrForm
	}
	return o, api.OK
}

// kindOfLink returns the kind that the Link at an index requires, among those of an object of a kind.
func kindOfLink(kind, index int) int {
	switch {
	case kind == object.Tree:
		return object.Blob
	case kind == object.Commit && index == 0:
		return object.Tree
	}
	return object.Commit
}

// reached returns all IDs that were come to, in ascending order; if one has an error, that of the least one.
func (w *walk) reached() ([]string, api.Errno) {
	for _, id := range w.ids {
		if err := w.found[id].err(); err != api.OK {
			return nil, err
		}
	}
	return w.ids, api.OK
}

// errorOf returns the error of an ID. Of one that was not come to nothing is required but that it can be read.
func (w *walk) errorOf(id string) api.Errno {
	if x, ok := w.found[id]; ok {
		return x.err()
	}
	_, err := w.shelf.Get(id)
	return err
}
