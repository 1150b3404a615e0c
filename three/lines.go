package three

import (
	"slices"

	"stemma/api"
	"stemma/listdiff"
)

// Lines returns what ours and theirs make of base together, or the hunks that they have changed otherwise: ErrLong if a list has more than MaxItems items.
func Lines(base, ours, theirs []string) ([]string, []Hunk, api.Errno) {
	inOurs, err := listdiff.Match(base, ours)
	if err != api.OK {
		return nil, nil, err
	}
	inTheirs, err := listdiff.Match(base, theirs)
	if err != api.OK {
		return nil, nil, err
	}
	var made []string
	var hunks []Hunk
	piece := func(base, ours, theirs []string) {
		if l, ok := settled(base, ours, theirs); ok {
			made = append(made, l...)
		} else {
			hunks = append(hunks, Hunk{slices.Clone(base), slices.Clone(ours), slices.Clone(theirs)})
		}
	}
	i, j, k := 0, 0, 0 // where the next piece begins in each list
	for at, item := range base {
		our, their := inOurs[at], inTheirs[at]
		if our < 0 || their < 0 {
			continue
		}
		piece(base[i:at], ours[j:our], theirs[k:their])
		made = append(made, item)
		i, j, k = at+1, our+1, their+1
	}
	piece(base[i:], ours[j:], theirs[k:])
	if len(hunks) > 0 {
		return nil, hunks, api.OK
	}
	return made, nil, api.OK
}
