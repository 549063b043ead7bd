package sieve

import (
	"slices"

	"stillroom/api"
)

// columns: the number of each of a table's columns, by its name.
type columns map[string]int

// numbered: a table's.
func numbered(t api.Table) columns {
	out := columns{}
	// From the end, as the first of a name counts.
	for n, c := range slices.Backward(t.Columns) {
		out[c.Name] = n
	}
	return out
}

// value: a row's, of the column of a name; null, if there is none.
func (c columns) value(r api.Row, name string) api.Value {
	n, ok := c[name]
	if !ok {
		return api.Value{}
	}
	return nth(r, n)
}

// nth: the value at a number; null, if there is none, as what isn't promised must not panic either.
func nth(l []api.Value, n int) api.Value {
	if n >= len(l) {
		return api.Value{}
	}
	return l[n]
}
