// Package rows holds what the texts of lists have in common that are written as the fields of each row, one behind the other.
package rows

import (
	"slices"

	"stemma/nums"
)

// Join returns the text of the fields of all rows.
func Join[T any](l []T, fields func(row T) []string) string {
	var all []string
	for _, row := range l {
		all = append(all, fields(row)...)
	}
	return nums.Join(all...)
}

// Of returns the rows of fields, of which each has so many; false if the last one hasn't.
func Of[T any](fields []string, each int, row func(fields []string) T) ([]T, bool) {
	if len(fields)%each != 0 {
		return nil, false
	}
	var l []T
	for of := range slices.Chunk(fields, each) {
		l = append(l, row(of))
	}
	return l, true
}
