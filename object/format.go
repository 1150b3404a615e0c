package object

import (
	"slices"
	"strings"

	"stemma/api"
	"stemma/nums"
)

// format is what the objects of one kind have in common: how they are written as texts, and which others they name.
type format struct {
	write func(o Object) []string             // whatever the fields are
	read  func(texts []string) (Object, bool) // false if they aren't the texts of an object of the kind
	links func(o Object) []string
}

// formatOf returns the format of a kind, and whether it is one.
func formatOf(kind int) (format, bool) {
	switch kind {
	case Blob:
		return format{write: writeBlob, read: readBlob, links: blobLinks}, true
	case Tree:
		return format{write: writeTree, read: readTree, links: treeLinks}, true
	case Commit:
		return format{write: writeCommit, read: readCommit, links: commitLinks}, true
	case Tag:
		return format{write: writeTag, read: readTag, links: tagLinks}, true
	}
	return format{}, false
}

func writeBlob(o Object) []string { return []string{o.Body} }

func readBlob(texts []string) (Object, bool) {
	if len(texts) != 1 || len(texts[0]) > api.MaxBody {
		return Object{}, false
	}
	return Object{Kind: Blob, Body: texts[0]}, true
}

func blobLinks(Object) []string { return nil }

func writeTree(o Object) []string {
	var texts []string
	for _, e := range o.Entries {
		texts = append(texts, e.Name, e.ID)
	}
	return texts
}

func readTree(texts []string) (Object, bool) {
	if len(texts)%2 != 0 || len(texts)/2 > api.MaxItems {
		return Object{}, false
	}
	o := Object{Kind: Tree}
	previous := ""
	for pair := range slices.Chunk(texts, 2) {
		e := Entry{Name: pair[0], ID: pair[1]}
		if !Good(e.Name) || e.Name <= previous || len(e.ID) != idSize {
			return Object{}, false
		}
		o.Entries = append(o.Entries, e)
		previous = e.Name
	}
	return o, true
}

func treeLinks(o Object) []string {
	var ids []string
	for _, e := range o.Entries {
		ids = append(ids, e.ID)
	}
	return ids
}

func writeCommit(o Object) []string {
	return []string{o.Tree, strings.Join(o.Parents, ""), o.Author, o.Text, nums.Put(o.Time)}
}

func readCommit(texts []string) (Object, bool) {
	if len(texts) != 5 {
		return Object{}, false
	}
	o := Object{Kind: Commit, Tree: texts[0], Author: texts[2], Text: texts[3]}
	if len(o.Tree) != idSize || len(o.Author) > maxAuthor || len(o.Text) > maxText {
		return Object{}, false
	}
	parents, ok := readParents(texts[1])
	if !ok {
		return Object{}, false
	}
	time, size, err := nums.Get(texts[4])
	if err != api.OK || size != len(texts[4]) {
		return Object{}, false
	}
	o.Parents, o.Time = parents, time
	return o, true
}

// readParents returns the IDs that s has one behind the other.
func readParents(s string) ([]string, bool) {
	if len(s)%idSize != 0 || len(s)/idSize > api.MaxParents {
		return nil, false
	}
	var ids []string
	for ; s != ""; s = s[idSize:] {
		id := s[:idSize]
		if slices.Contains(ids, id) {
			return nil, false
		}
		ids = append(ids, id)
	}
	return ids, true
}

func commitLinks(o Object) []string {
	return append([]string{o.Tree}, o.Parents...)
}

func writeTag(o Object) []string { return []string{o.Target, o.Name, o.Text} }

func readTag(texts []string) (Object, bool) {
	if len(texts) != 3 {
		return Object{}, false
	}
	o := Object{Kind: Tag, Target: texts[0], Name: texts[1], Text: texts[2]}
	if len(o.Target) != idSize || !Good(o.Name) || len(o.Text) > maxText {
		return Object{}, false
	}
	return o, true
}

func tagLinks(o Object) []string { return []string{o.Target} }
