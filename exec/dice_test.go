package exec

import (
	"slices"

	"stillroom/api"
)

// dice: numbers that are the same each time.
type dice uint64

func (d *dice) throw(n int) int {
	*d = *d*6364136223846793005 + 1442695040888963407
	return int(uint64(*d) >> 33 % uint64(n))
}

// one of a list.
func one[E any](d *dice, l ...E) E {
	return l[d.throw(len(l))]
}

// value: of a kind, few of them; not null.
func (d *dice) value(k api.Kind) api.Value {
	switch {
	case k == api.Bool:
		return truth(d.throw(2))
	case k == api.Text:
		return text(one(d, "", "a", "a\x00", "ab", "b", "it's ?", "\xff"))
	case d.throw(4) == 0:
		return num(one(d, least, least+1, -1<<62, 1<<62, most-1, most))
	}
	return num(d.throw(6) - 2)
}

// maybe: likewise, or null.
func (d *dice) maybe(k api.Kind) api.Value {
	if d.throw(5) == 0 {
		return null
	}
	return d.value(k)
}

// row: one of a table's.
func (d *dice) row(t api.Table) api.Row {
	var r api.Row
	for _, c := range t.Columns {
		if c.Null {
			r = append(r, d.maybe(c.Kind))
		} else {
			r = append(r, d.value(c.Kind))
		}
	}
	return r
}

// rows: some of a table's, no two of one key, in any order.
func (d *dice) rows(t api.Table) []api.Row {
	var l []api.Row
	for range d.throw(25) {
		r := d.row(t)
		if !slices.ContainsFunc(l, func(s api.Row) bool { return slices.Equal(r[:t.Keys], s[:t.Keys]) }) {
			l = append(l, r)
		}
	}
	return l
}

// columns: the names of some of a table's, each once, in any order.
func (d *dice) columns(t api.Table, more int) []string {
	var l []string
	for _, c := range t.Columns {
		if d.throw(more) == 0 {
			l = slices.Insert(l, d.throw(len(l)+1), c.Name)
		}
	}
	return l
}

// pred: one that may be asked of a table, so deep at most.
func (d *dice) pred(t api.Table, deep int) api.Pred {
	c, rel := one(d, t.Columns...), api.Rel(d.throw(6)+1)
	k := d.throw(9)
	if deep > 0 {
		k = d.throw(16)
	}
	switch {
	case k == 0:
		return api.Pred{Kind: one(d, api.PTrue, api.PFalse)}
	case k == 1:
		return api.Pred{Kind: one(d, api.PNull, api.PSome), Column: c.Name}
	case k == 2:
		return api.Pred{Kind: api.PColumns, Column: c.Name, Rel: rel, Other: d.like(t, c).Name}
	case k == 3:
		return api.Pred{Kind: api.PIn, Column: c.Name, List: []api.Value{d.maybe(c.Kind), d.value(c.Kind), d.value(c.Kind)}}
	case k < 9:
		return api.Pred{Kind: api.PCompare, Column: c.Name, Rel: rel, Value: d.maybe(c.Kind)}
	case k < 11:
		return api.Pred{Kind: api.PNot, Kids: []api.Pred{d.pred(t, deep-1)}}
	}
	p := api.Pred{Kind: one(d, api.PAnd, api.POr)}
	for range d.throw(2) + 2 {
		kid := d.pred(t, deep-1)
		if kid.Kind == p.Kind {
			// No text has a Kid of its own kind without brackets, which leave no trace.
			kid = kid.Kids[0]
		}
		p.Kids = append(p.Kids, kid)
	}
	return p
}

// like: a column of the kind of another one.
func (d *dice) like(t api.Table, c api.Column) api.Column {
	return one(d, slices.DeleteFunc(slices.Clone(t.Columns), func(x api.Column) bool { return x.Kind != c.Kind })...)
}

// aggregate: an item that is one, of a table.
func (d *dice) aggregate(t api.Table) api.Item {
	c := one(d, t.Columns...)
	x := api.Item{Agg: one(d, api.Rows, api.Count, api.Sum, api.Sum, api.Min, api.Max), Column: c.Name}
	switch {
	case x.Agg == api.Rows:
		x.Column = ""
	case x.Agg == api.Sum:
		x.Column = d.like(t, api.Column{Kind: api.Int}).Name
	}
	return x
}

// item: one of some columns, if there are any, or, if the query is grouped, an aggregate.
func (d *dice) item(t api.Table, grouped bool, names []string) api.Item {
	if grouped && (len(names) == 0 || d.throw(2) == 0) {
		return d.aggregate(t)
	}
	return api.Item{Column: one(d, names...)}
}

// query: one that may be asked of a table.
func (d *dice) query(t api.Table) api.Query {
	q := api.Query{Table: t.Name, Limit: one(d, -1, -1, -1, 0, 1, 2, 3, 7, api.MaxLimit)}
	if d.throw(4) > 0 {
		q.Where = d.pred(t, 2)
	}
	grouped := d.throw(2) == 0
	var names []string
	if grouped {
		names = d.columns(t, 3)
		for _, name := range names {
			q.Group = append(q.Group, api.Item{Column: name})
		}
	} else {
		names = d.columns(t, 1)
	}
	if !grouped && d.throw(4) == 0 {
		q.All = true
	} else {
		for range d.throw(4) + 1 {
			q.Items = append(q.Items, d.item(t, grouped, names))
		}
	}
	for range d.throw(4) {
		q.Order = append(q.Order, api.Key{Item: d.item(t, grouped, names), Desc: d.throw(2) == 0})
	}
	return q
}
