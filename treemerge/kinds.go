package treemerge

import (
	"strconv"
	"strings"

	"stemma/api"
	"stemma/keydiff"
	"stemma/nums"
	"stemma/rules"
	"stemma/three"
	"stemma/vocab"
)

// converted returns what convert makes of the texts of base, ours and theirs.
func converted[T any](texts [3]string, convert func(s string) T) (base, ours, theirs T) {
	return convert(texts[0]), convert(texts[1]), convert(texts[2])
}

// mergeTexts merges three valid files of a kind; the conflicts have no names yet.
func mergeTexts(kind int, texts [3]string) (string, []Conflict) {
	switch kind {
	case rules.Merges:
		return mergeMerges(texts)
	case rules.Vocab:
		return mergeVocab(texts)
	case rules.Rules:
		return mergeRules(texts)
	}
	return mergeTemplate(texts)
}

func mergeMerges(texts [3]string) (string, []Conflict) {
	base, ours, theirs := converted(texts, rules.Lines)
	// A valid file is neither too long for Lists nor has it a line twice.
	lines, crossed, _ := three.Lists(base, ours, theirs)
	if len(crossed) > 0 {
		return "", []Conflict{{What: Order, Items: crossed}}
	}
	return strings.Join(lines, ""), nil
}

func mergeVocab(texts [3]string) (string, []Conflict) {
	id := func(key string) int {
		n, _, _ := nums.Get(key)
		return n
	}
	l, conflicts := mergeKeyed(texts, entryItems, func(key string) string { return strconv.Itoa(id(key)) })
	var entries []vocab.Entry
	for _, x := range l {
		entries = append(entries, vocab.Entry{ID: id(x.Key), Token: x.Value})
	}
	return vocab.Show(entries), conflicts
}

// entryItems returns the entries of a vocabulary as a keyed list: the encodings of numbers have the numbers' order, their digits do not.
func entryItems(s string) []keydiff.Item {
	entries, _, _ := vocab.Parse(s)
	var l []keydiff.Item
	for _, e := range entries {
		l = append(l, keydiff.Item{Key: nums.Put(e.ID), Value: e.Token})
	}
	return l
}

func mergeRules(texts [3]string) (string, []Conflict) {
	l, conflicts := mergeKeyed(texts, ruleItems, func(key string) string { return key })
	var list []rules.Rule
	for _, x := range l {
		list = append(list, rules.Rule{Name: x.Key, Pattern: x.Value})
	}
	return rules.Show(list), conflicts
}

// ruleItems returns the rules of a text as a keyed list.
func ruleItems(s string) []keydiff.Item {
	list, _, _ := rules.Parse(s)
	var l []keydiff.Item
	for _, r := range list {
		l = append(l, keydiff.Item{Key: r.Name, Value: r.Pattern})
	}
	return l
}

// mergeKeyed merges texts that read makes keyed lists of; tell writes a key of theirs for a conflict.
func mergeKeyed(texts [3]string, read func(s string) []keydiff.Item, tell func(key string) string) ([]keydiff.Item, []Conflict) {
	base, ours, theirs := converted(texts, read)
	l, unsettled, _ := keydiff.Merge(base, ours, theirs)
	var conflicts []Conflict
	for _, c := range unsettled {
		conflicts = append(conflicts, Conflict{What: Key, Items: []string{tell(c.Key)}})
	}
	return l, conflicts
}

func mergeTemplate(texts [3]string) (string, []Conflict) {
	base, ours, theirs := converted(texts, rules.Lines)
	lines, hunks, err := three.Lines(base, ours, theirs)
	if err != api.OK {
		return "", []Conflict{{What: File}}
	}
	var conflicts []Conflict
	for _, h := range hunks {
		items := []string{strings.Join(h.Base, ""), strings.Join(h.Ours, ""), strings.Join(h.Theirs, "")}
		conflicts = append(conflicts, Conflict{What: Lines, Items: items})
	}
	return strings.Join(lines, ""), conflicts
}
