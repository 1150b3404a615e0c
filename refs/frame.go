package refs

import (
	"stemma/api"
	"stemma/crc"
	"stemma/names"
	"stemma/nums"
	"stemma/rows"
)

// The kinds of frames.
const (
	tableKind  = 1
	changeKind = 2
)

const updateFields = 3

// tableFrame returns the frame of a table; an empty text if it is too long for one.
func tableFrame(t names.Table) string { return crc.Frame(tableKind, names.Encode(t)) }

// changeFrame returns the frame of a change; an empty text if it is too long for one.
func changeFrame(l []names.Update, head string) string {
	updates := rows.Join(l, func(u names.Update) []string { return []string{u.Name, u.Old, u.New} })
	return crc.Frame(changeKind, nums.Join(head, updates))
}

// parse returns the table of the file's text; false if it isn't as this package writes it.
func parse(text string) (names.Table, bool) {
	kind, body, n, err := crc.Next(text)
	if err != api.OK || kind != tableKind {
		return names.Table{}, false
	}
	t, err := names.Decode(body)
	if err != api.OK {
		return names.Table{}, false
	}
	for rest := text[n:]; rest != ""; rest = rest[n:] {
		kind, body, n, err = crc.Next(rest)
		if err != api.OK || kind != changeKind {
			return names.Table{}, false
		}
		l, head, ok := parseChange(body)
		if !ok {
			return names.Table{}, false
		}
		if t, err = t.Apply(l, head); err != api.OK {
			return names.Table{}, false
		}
	}
	return t, true
}

// parseChange returns the updates and the head of a change.
func parseChange(body string) ([]names.Update, string, bool) {
	parts, err := nums.Split(body)
	if err != api.OK || len(parts) != 2 {
		return nil, "", false
	}
	fields, err := nums.Split(parts[1])
	if err != api.OK {
		return nil, "", false
	}
	l, ok := rows.Of(fields, updateFields, func(of []string) names.Update {
		return names.Update{Name: of[0], Old: of[1], New: of[2]}
	})
	return l, parts[0], ok
}
