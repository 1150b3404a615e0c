// Package lines holds what the texts of lists have in common that are written as a line for each item.
package lines

import (
	"strings"

	"stemma/api"
)

// Parse returns the items of the lines of s, each of which read is asked for without its newline;
// of the first line with an error it returns the number, from 1, and the error.
func Parse[T any](s string, read func(line string) (T, api.Errno)) ([]T, int, api.Errno) {
	if len(s) > api.MaxBody {
		return nil, 0, api.ErrLong
	}
	var l []T
	for line := range strings.Lines(s) {
		item, err := next(len(l), line, read)
		if err != api.OK {
			return nil, len(l) + 1, err
		}
		l = append(l, item)
	}
	return l, 0, api.OK
}

// next returns the item of a line that n others precede.
func next[T any](n int, line string, read func(line string) (T, api.Errno)) (T, api.Errno) {
	var none T
	if n >= api.MaxItems {
		return none, api.ErrLong
	}
	text, whole := strings.CutSuffix(line, "\n")
	if !whole {
		return none, api.ErrForm
	}
	return read(text)
}
