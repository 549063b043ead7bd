package check

import (
	"slices"

	"stillroom/api"
)

// preds: a predicate, and all that stand in it, in the order of the text; Kids ahead of what they stand in.
func preds(p api.Pred) []api.Pred {
	// What is left is kept in a list: calls within calls wouldn't do for Kids of any depth. It is gone through from the end, as then what stands around is taken out first.
	left := []api.Pred{p}
	var out []api.Pred
	for len(left) > 0 {
		last := left[len(left)-1]
		left = append(left[:len(left)-1], last.Kids...)
		out = append(out, last)
	}
	slices.Reverse(out)
	return out
}

// names: the columns that a predicate names, but for its Kids.
func names(p api.Pred) []string {
	switch p.Kind {
	case api.PCompare, api.PIn, api.PNull, api.PSome:
		return []string{p.Column}
	case api.PColumns:
		return []string{p.Column, p.Other}
	}
	return nil
}

// literals: those of a predicate, but for its Kids.
func literals(p api.Pred) []api.Value {
	switch p.Kind {
	case api.PCompare:
		return []api.Value{p.Value}
	case api.PConst:
		return append([]api.Value{p.Value}, p.List...)
	case api.PIn:
		return p.List
	}
	return nil
}

// spelt: the query, All told by the table's columns; it has all its lists for itself.
func spelt(t api.Table, q api.Query) api.Query {
	q.Items, q.Group, q.Order = slices.Clone(q.Items), slices.Clone(q.Group), slices.Clone(q.Order)
	if q.All {
		q.Items = all(t, q.At)
	}
	q.Where = copied(q.Where)
	return q
}

// all: an item for each of the table's columns, at a place.
func all(t api.Table, at int) []api.Item {
	var out []api.Item
	for _, c := range t.Columns {
		out = append(out, api.Item{Column: c.Name, At: at})
	}
	return out
}

// copied: a predicate that shares no list with p.
func copied(p api.Pred) api.Pred {
	left := []*api.Pred{&p}
	for len(left) > 0 {
		last := left[len(left)-1]
		left = left[:len(left)-1]
		last.List, last.Kids = slices.Clone(last.List), slices.Clone(last.Kids)
		for n := range last.Kids {
			left = append(left, &last.Kids[n])
		}
	}
	return p
}
