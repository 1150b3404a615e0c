package lines_test

import (
	"slices"
	"strings"
	"testing"

	"stemma/api"
	"stemma/lines"
)

// parse parses a text whose lines may be all but x, y and z, each of which is an error of its own.
func parse(s string) ([]string, int, api.Errno) {
	return lines.Parse(s, func(line string) (string, api.Errno) {
		switch line {
		case "x":
			return "", api.ErrForm
		case "y":
			return "left", api.ErrOrder
		case "z":
			return "left", api.ErrExists
		}
		return line, api.OK
	})
}

func TestParse(t *testing.T) {
	for _, c := range []struct {
		text string
		want []string
		line int
		err  api.Errno
	}{
		{"", nil, 0, api.OK},
		{"a\n", []string{"a"}, 0, api.OK},
		{"a\n\nb \r\n", []string{"a", "", "b \r"}, 0, api.OK},
		{"a", nil, 1, api.ErrForm},
		{"a\nb", nil, 2, api.ErrForm},
		{"a\ny", nil, 2, api.ErrForm},
		{"a\nx\n", nil, 2, api.ErrForm},
		{"y\nx\n", nil, 1, api.ErrOrder},
		{"a\nb\nz\ny\n", nil, 3, api.ErrExists},
		{strings.Repeat("a\n", 4096), slices.Repeat([]string{"a"}, 4096), 0, api.OK},
		{strings.Repeat("a\n", 4097), nil, 4097, api.ErrLong},
		{strings.Repeat("a\n", 4096) + "b", nil, 4097, api.ErrLong},
		{strings.Repeat("a\n", 4096) + "x\n", nil, 4097, api.ErrLong},
		{strings.Repeat("a\n", 4095) + "x\nb\n", nil, 4096, api.ErrForm},
		{strings.Repeat("a", api.MaxBody-1) + "\n", []string{strings.Repeat("a", api.MaxBody-1)}, 0, api.OK},
		{strings.Repeat("a", api.MaxBody) + "\n", nil, 0, api.ErrLong},
		{"x\n" + strings.Repeat("a", api.MaxBody), nil, 0, api.ErrLong},
	} {
		l, line, err := parse(c.text)
		if !slices.Equal(l, c.want) || line != c.line || err != c.err {
			t.Errorf("Parse of %d bytes: %d items, %d, %d, want %d, %d, %d", len(c.text), len(l), line, err, len(c.want), c.line, c.err)
		}
	}
}
