package norm

import (
	"math"
	"slices"

	"stillroom/api"
)

// dice: numbers that are the same each time.
type dice uint64

func (d *dice) throw(n int) int {
	*d = *d*6364136223846793005 + 1442695040888963407
	return int(uint64(*d) >> 33 % uint64(n))
}

func num(n int) api.Value {
	return api.Value{Kind: api.Int, Num: n}
}

func text(s string) api.Value {
	return api.Value{Kind: api.Text, Text: s}
}

// value: of a kind, few of them; not null.
func (d *dice) value(k api.Kind) api.Value {
	switch {
	case k == api.Bool:
		return api.Value{Kind: api.Bool, Num: d.throw(2)}
	case k == api.Text:
		return text([]string{"", "a", "a\x00", "ab", "b", "c", "\xff"}[d.throw(7)])
	case d.throw(8) == 0:
		return num([]int{math.MinInt, math.MinInt + 1, math.MinInt + 2, math.MaxInt - 2, math.MaxInt - 1, math.MaxInt}[d.throw(6)])
	}
	return num(d.throw(7) - 3)
}

// literal: likewise, seldom null.
func (d *dice) literal(k api.Kind) api.Value {
	if d.throw(20) == 0 {
		return api.Value{}
	}
	return d.value(k)
}

// table: one of some columns of any kinds.
func (d *dice) table() api.Table {
	t := api.Table{Name: "t", Keys: 1}
	for n := range d.throw(4) + 1 {
		t.Columns = append(t.Columns, api.Column{Name: []string{"b", "a", "ba", "a_"}[n], Kind: api.Kind(d.throw(3) + 1), Null: n > 0 && d.throw(3) > 0})
	}
	return t
}

// row: one of the table's; ints may be one off what literals are.
func (d *dice) row(t api.Table) api.Row {
	var r api.Row
	for _, c := range t.Columns {
		v := d.value(c.Kind)
		if c.Kind == api.Text && d.throw(3) == 0 {
			v.Text += []string{"\x00", "a", "z"}[d.throw(3)]
		}
		if c.Null && d.throw(5) == 0 {
			v = api.Value{}
		}
		r = append(r, v)
	}
	return r
}

// column: one of the table's, of a kind, if there is one.
func (d *dice) column(t api.Table, k api.Kind) api.Column {
	var l []api.Column
	for _, c := range t.Columns {
		if c.Kind == k {
			l = append(l, c)
		}
	}
	return l[d.throw(len(l))]
}

// list: literals of a kind.
func (d *dice) list(k api.Kind) []api.Value {
	l := []api.Value{d.literal(k)}
	for len(l) < api.MaxList && d.throw(3) > 0 {
		l = append(l, d.literal(k))
	}
	return l
}

// pred: one that a checked query may have, so deep at most, or with a Kid of Kind 0.
func (d *dice) pred(t api.Table, deep int) api.Pred {
	kinds := []int{api.PCompare, api.PCompare, api.PCompare, api.PCompare, api.PCompare, api.PColumns, api.PIn, api.PIn, api.PNull, api.PSome, api.PConst, api.PTrue, api.PFalse, 0}
	if deep > 0 {
		kinds = append(kinds, api.PAnd, api.PAnd, api.PAnd, api.PAnd, api.PAnd, api.PAnd, api.POr, api.POr, api.POr, api.PNot, api.PNot)
	}
	k := kinds[d.throw(len(kinds))]
	if k < api.PCompare && d.throw(3) > 0 {
		k = api.PCompare
	}
	return d.of(t, k, deep)
}

// of: likewise, of a kind.
func (d *dice) of(t api.Table, kind, deep int) api.Pred {
	c := t.Columns[d.throw(len(t.Columns))]
	p := api.Pred{Kind: kind, At: d.throw(100)}
	rel := api.Rel(d.throw(6) + 1)
	switch kind {
	case api.PCompare:
		p.Column, p.Rel, p.Value = c.Name, rel, d.literal(c.Kind)
	case api.PColumns:
		p.Column, p.Rel, p.Other = c.Name, rel, d.column(t, c.Kind).Name
	case api.PIn:
		p.Column, p.List = c.Name, d.list(c.Kind)
	case api.PNull, api.PSome:
		p.Column = c.Name
	case api.PConst:
		p.Value, p.Rel, p.List = d.literal(c.Kind), rel, []api.Value{d.literal(c.Kind)}
	case api.PNot:
		p.Kids = []api.Pred{d.pred(t, deep-1)}
	case api.PAnd, api.POr:
		for range d.throw(4) + 2 {
			p.Kids = append(p.Kids, d.pred(t, deep-1))
		}
	}
	return p
}

// stirred: the predicate with its Kids in another order, some of them twice, some in brackets, some behind two NOTs.
func (d *dice) stirred(p api.Pred) api.Pred {
	var kids []api.Pred
	for _, kid := range p.Kids {
		kids = append(kids, d.stirred(kid))
		if p.Kind != api.PNot && d.throw(4) == 0 {
			kids = append(kids, d.stirred(kid))
		}
	}
	for n := range kids {
		if m := d.throw(n + 1); p.Kind != api.PNot {
			kids[n], kids[m] = kids[m], kids[n]
		}
	}
	if len(kids) > 2 && d.throw(2) == 0 {
		n := d.throw(len(kids)-1) + 1
		within := api.Pred{Kind: p.Kind, Kids: slices.Clone(kids[n:]), At: d.throw(100)}
		kids = append(kids[:n], within)
	}
	p.Kids, p.At = kids, d.throw(100)
	if d.throw(6) == 0 {
		p = api.Pred{Kind: api.PNot, Kids: []api.Pred{{Kind: api.PNot, Kids: []api.Pred{p}}}}
	}
	return p
}
