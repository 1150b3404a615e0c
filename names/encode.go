package names

import (
	"stemma/api"
	"stemma/nums"
	"stemma/rows"
)

const (
	refFields    = 2
	updateFields = 3
)

// Encode returns the text of a table.
func Encode(t Table) string {
	refs := rows.Join(t.Refs, func(r Ref) []string { return []string{r.Name, r.ID} })
	log := rows.Join(t.Log, func(u Update) []string { return []string{u.Name, u.Old, u.New} })
	return nums.Join(t.Head, refs, log)
}

// Decode returns the table of a text.
func Decode(s string) (Table, api.Errno) {
	parts, err := nums.Split(s)
	if err != api.OK {
		return Table{}, err
	}
	if len(parts) != 3 {
		return Table{}, api.ErrForm
	}
	refs, err := nums.Split(parts[1])
	if err != api.OK {
		return Table{}, err
	}
	log, err := nums.Split(parts[2])
	if err != api.OK {
		return Table{}, err
	}
	t, ok := tableOf(parts[0], refs, log)
	if !ok {
		return Table{}, api.ErrForm
	}
	return t, api.OK
}

// tableOf returns the table of a head, and of the fields of its references and of its log; false if that is none.
func tableOf(head string, refs, log []string) (Table, bool) {
	r, wholeRefs := rows.Of(refs, refFields, func(of []string) Ref { return Ref{of[0], of[1]} })
	l, wholeLog := rows.Of(log, updateFields, func(of []string) Update { return Update{of[0], of[1], of[2]} })
	t := Table{Refs: r, Head: head, Log: l}
	if !wholeRefs || !wholeLog || !t.right() {
		return Table{}, false
	}
	return t, true
}

// right reports whether a table is as Apply makes them.
func (t Table) right() bool {
	for i, r := range t.Refs {
		if !Good(r.Name) || len(r.ID) != idSize || i > 0 && t.Refs[i-1].Name >= r.Name {
			return false
		}
	}
	return Branch(t.Head) && len(t.Log) <= maxLog && every(t.Log, func(u Update) bool { return Good(u.Name) && u.possible() })
}
