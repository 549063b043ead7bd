package show

import (
	"math"
	"slices"
	"strings"

	"stillroom/api"
)

// dice: numbers that are the same each time.
type dice uint64

func (d *dice) throw(n int) int {
	*d = *d*6364136223846793005 + 1442695040888963407
	return int(uint64(*d) >> 33 % uint64(n))
}

// literal: of a kind, or null.
func (d *dice) literal(k api.Kind) api.Value {
	switch {
	case d.throw(12) == 0:
		return api.Value{}
	case k == api.Bool:
		return api.Value{Kind: k, Num: d.throw(2)}
	case k == api.Int:
		return num([]int{math.MinInt, -10, -1, 0, 1, 2, 3, 10, math.MaxInt}[d.throw(9)])
	}
	return text([]string{"", "x", "xy", "it's", "a, b", ") OR (", "\\", "\x00\xff", strings.Repeat("'", 30)}[d.throw(9)])
}

// literals: from one to so many.
func (d *dice) literals(k api.Kind, most int) []api.Value {
	var l []api.Value
	for range d.throw(most) + 1 {
		l = append(l, d.literal(k))
	}
	return l
}

// column: one of the table's.
func (d *dice) column() api.Column {
	l := asking().Columns
	return l[d.throw(len(l))]
}

// like: one of the table's of a kind.
func (d *dice) like(k api.Kind) string {
	for {
		if c := d.column(); c.Kind == k {
			return c.Name
		}
	}
}

// pred: a predicate of a query that is right, so deep at most.
func (d *dice) pred(room int) api.Pred {
	n := d.throw(18)
	p := api.Pred{At: d.throw(api.MaxQuery)}
	switch {
	case room == 0 || n < 6:
		return d.alone(p)
	case n < 9:
		p.Kind, p.Kids = api.PNot, []api.Pred{d.pred(room - 1)}
		return p
	}
	p.Kind = api.PAnd + n%2
	for range d.throw(3) + 2 {
		p.Kids = append(p.Kids, d.pred(room-1))
	}
	return p
}

// alone: p as a predicate without Kids.
func (d *dice) alone(p api.Pred) api.Pred {
	c := d.column()
	p.Kind = []int{api.PTrue, api.PFalse, api.PCompare, api.PCompare, api.PCompare, api.PColumns, api.PIn, api.PIn, api.PNull, api.PSome, api.PConst}[d.throw(11)]
	switch p.Kind {
	case api.PTrue, api.PFalse:
		return p
	case api.PConst:
		p.Value, p.Rel, p.List = d.literal(c.Kind), api.Rel(d.throw(6)+1), d.literals(c.Kind, 1)
		return p
	}
	p.Column = c.Name
	switch p.Kind {
	case api.PCompare:
		p.Rel, p.Value = api.Rel(d.throw(6)+1), d.literal(c.Kind)
	case api.PColumns:
		p.Rel, p.Other = api.Rel(d.throw(6)+1), d.like(c.Kind)
	case api.PIn:
		p.List = d.literals(c.Kind, api.MaxList)
	}
	return p
}

// plain: an item that is no aggregate.
func (d *dice) plain() api.Item {
	return api.Item{Column: d.column().Name, At: d.throw(api.MaxQuery)}
}

// aggregate: an item that is one.
func (d *dice) aggregate() api.Item {
	x := d.plain()
	switch x.Agg = api.Agg(d.throw(5) + 1); x.Agg {
	case api.Rows:
		x.Column = ""
	case api.Sum:
		x.Column = d.like(api.Int)
	}
	return x
}

// asks: q with items and keys that may stand beside its GROUP BY, or without one.
func (d *dice) asks(q api.Query) api.Query {
	item := d.plain
	switch {
	case len(q.Group) > 0:
		item = func() api.Item {
			if d.throw(2) == 0 {
				return d.aggregate()
			}
			return q.Group[d.throw(len(q.Group))]
		}
	case d.throw(3) == 0:
		item = d.aggregate
	case d.throw(3) == 0:
		q.All = true
	}
	for range d.throw(api.MaxItems) + 1 {
		if !q.All {
			q.Items = append(q.Items, item())
		}
	}
	for range d.throw(2) * d.throw(api.MaxItems+1) {
		q.Order = append(q.Order, api.Key{Item: item(), Desc: d.throw(2) == 0})
	}
	return q
}

// query: one that is right; its predicate so deep at most.
func (d *dice) query(room int) api.Query {
	q := api.Query{Table: "t", Limit: -1}
	if d.throw(4) > 0 {
		q.Where = d.pred(room)
	}
	if d.throw(4) == 0 {
		columns := asking().Columns
		first := d.throw(len(columns))
		for _, c := range columns[first : first+1+d.throw(len(columns)-first)] {
			q.Group = append(q.Group, api.Item{Column: c.Name})
		}
		slices.Reverse(q.Group)
	}
	if d.throw(2) == 0 {
		q.Limit = []int{0, 1, 10, 999, api.MaxLimit}[d.throw(5)]
	}
	return d.asks(q)
}
