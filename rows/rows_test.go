package rows_test

import (
	"slices"
	"testing"

	"stemma/rows"
)

// pair is a row of two fields.
type pair struct{ a, b string }

func fields(p pair) []string { return []string{p.a, p.b} }

func row(of []string) pair { return pair{of[0], of[1]} }

func TestJoin(t *testing.T) {
	for want, l := range map[string][]pair{
		"":                              nil,
		"\x00\x00":                      {{}},
		"\x01a\x02bc":                   {{"a", "bc"}},
		"\x01a\x02bc\x00\x01\xff":       {{"a", "bc"}, {"", "\xff"}},
		"\x01b\x01a\x01b\x01a\x01a\x00": {{"b", "a"}, {"b", "a"}, {"a", ""}},
	} {
		if s := rows.Join(l, fields); s != want {
			t.Errorf("Join(%q): %q, want %q", l, s, want)
		}
	}
	if s := rows.Join([]string{"a", "bc"}, func(s string) []string { return []string{s} }); s != "\x01a\x02bc" {
		t.Errorf("Join of rows of one field: %q", s)
	}
}

func TestOf(t *testing.T) {
	for _, c := range []struct {
		fields []string
		want   []pair
		ok     bool
	}{
		{nil, nil, true},
		{[]string{}, nil, true},
		{[]string{"a"}, nil, false},
		{[]string{"a", "b"}, []pair{{"a", "b"}}, true},
		{[]string{"a", "b", "c"}, nil, false},
		{[]string{"a", "b", "", "d"}, []pair{{"a", "b"}, {"", "d"}}, true},
	} {
		before := slices.Clone(c.fields)
		l, ok := rows.Of(c.fields, 2, row)
		if !slices.Equal(l, c.want) || ok != c.ok {
			t.Errorf("Of(%q): %q, %v; want %q, %v", c.fields, l, ok, c.want, c.ok)
		}
		if !slices.Equal(c.fields, before) {
			t.Errorf("Of has changed %q", before)
		}
	}
	for n := range 10 {
		three := func(of []string) [3]string { return [3]string(of) }
		if l, ok := rows.Of(make([]string, n), 3, three); ok != (n%3 == 0) || ok && len(l) != n/3 {
			t.Errorf("Of %d fields: %q, %v", n, l, ok)
		}
	}
}
