package exec

import (
	"stillroom/api"
	"stillroom/check"
	"stillroom/order"
	"stillroom/schema"
	"stillroom/sieve"
	"stillroom/tally"
)

// lines: a query's, for rows that pass; or what is wrong with a group of them.
func lines(t api.Table, q api.Query, l []api.Row) ([]order.Line, error) {
	if check.Grouped(q) {
		return ofGroups(t, q, tally.Groups(t, q.Group, l))
	}
	return ofRows(t, q, l), nil
}

// ofRows: a line for each row.
func ofRows(t api.Table, q api.Query, l []api.Row) []order.Line {
	by := ordered(q)
	var out []order.Line
	for _, r := range l {
		out = append(out, order.Line{Keys: sieve.Take(t, by, r), Tie: schema.Of(t, r), Out: sieve.Take(t, q.Items, r)})
	}
	return out
}

// ofGroups: a line for each group, or what is wrong with the first for which there is none.
func ofGroups(t api.Table, q api.Query, l []tally.Group) ([]order.Line, error) {
	by, items := tellers(t, q.Group, ordered(q)), tellers(t, q.Group, q.Items)
	var out []order.Line
	for _, g := range l {
		keys, err := told(by, g)
		if err != nil {
			return nil, err
		}
		outs, err := told(items, g)
		if err != nil {
			return nil, err
		}
		out = append(out, order.Line{Keys: keys, Tie: g.Key, Out: outs})
	}
	return out, nil
}

// ordered: the items of a query's ORDER BY.
func ordered(q api.Query) []api.Item {
	var out []api.Item
	for _, k := range q.Order {
		out = append(out, k.Item)
	}
	return out
}
