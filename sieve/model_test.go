package sieve

import (
	"reflect"
	"slices"
	"strings"
	"testing"

	"stillroom/api"
	"stillroom/check"
)

// dice: numbers that are the same each time.
type dice uint64

func (d *dice) throw(n int) int {
	*d = *d*6364136223846793005 + 1442695040888963407
	return int(uint64(*d) >> 33 % uint64(n))
}

// value: of a kind; seldom null.
func (d *dice) value(k api.Kind) api.Value {
	switch {
	case d.throw(6) == 0:
		return null()
	case k == api.Bool:
		return truth(d.throw(2))
	case k == api.Int:
		return num(d.throw(5) - 2)
	}
	return text([]string{"", "a", "ab", "b", "\xff"}[d.throw(5)])
}

// table: one of some columns, of any kinds, each with a name of its own.
func (d *dice) table() api.Table {
	names := []string{"a", "b", "c", "d", "aa", "a_", "b2", "count"}
	t := api.Table{Name: "t"}
	for range d.throw(api.MaxColumns) + 1 {
		n := d.throw(len(names))
		t.Columns = append(t.Columns, api.Column{Name: names[n], Kind: api.Kind(d.throw(3) + 1), Null: d.throw(3) > 0})
		names = slices.Delete(names, n, n+1)
	}
	t.Columns[0].Null = false
	t.Keys = 1
	return t
}

// row: one of the table's.
func (d *dice) row(t api.Table) api.Row {
	var r api.Row
	for _, c := range t.Columns {
		v := d.value(c.Kind)
		for v.Kind == api.Null && !c.Null {
			v = d.value(c.Kind)
		}
		r = append(r, v)
	}
	return r
}

// rows: some of the table's.
func (d *dice) rows(t api.Table) []api.Row {
	var l []api.Row
	for range d.throw(12) {
		l = append(l, d.row(t))
	}
	return l
}

// column: one of the table's, of a kind, if there is one.
func (d *dice) column(t api.Table, k api.Kind) api.Column {
	var l []api.Column
	for _, c := range t.Columns {
		if c.Kind == k {
			l = append(l, c)
		}
	}
	if len(l) == 0 {
		l = t.Columns
	}
	return l[d.throw(len(l))]
}

// list: values of a kind.
func (d *dice) list(k api.Kind) []api.Value {
	l := []api.Value{d.value(k)}
	for len(l) < api.MaxList && d.throw(3) > 0 {
		l = append(l, d.value(k))
	}
	return l
}

// pred: one that a checked query may have, so deep at most, or with a Kid of Kind 0.
func (d *dice) pred(t api.Table, deep int) api.Pred {
	c := t.Columns[d.throw(len(t.Columns))]
	p := api.Pred{Kind: d.throw(12), Rel: api.Rel(d.throw(6) + 1), At: d.throw(100)}
	if deep == 0 && (p.Kind == api.PAnd || p.Kind == api.POr || p.Kind == api.PNot) {
		p.Kind = api.PCompare
	}
	switch p.Kind {
	case api.PCompare:
		p.Column, p.Value = c.Name, d.value(c.Kind)
	case api.PColumns:
		p.Column, p.Other = c.Name, d.column(t, c.Kind).Name
	case api.PIn:
		p.Column, p.List = c.Name, d.list(c.Kind)
	case api.PNull, api.PSome:
		p.Column = c.Name
	case api.PConst:
		p.Value, p.List = d.value(c.Kind), []api.Value{d.value(c.Kind)}
	case api.PNot:
		p.Kids = []api.Pred{d.pred(t, deep-1)}
	case api.PAnd, api.POr:
		for range d.throw(3) + 2 {
			p.Kids = append(p.Kids, d.pred(t, deep-1))
		}
	}
	return p
}

// model tells truths as numbers by the words of chapters 1, 2 and 13: False 0, Unknown 1, True 2.
type model struct {
	table api.Table
	row   api.Row
}

func (m model) value(name string) api.Value {
	for n, c := range m.table.Columns {
		if c.Name == name {
			return m.row[n]
		}
	}
	return null()
}

func two(b bool) int {
	if b {
		return 2
	}
	return 0
}

// compares: by what each comparison means, of values of one kind.
func compares(rel api.Rel, a, b api.Value) int {
	if a.Kind == api.Null || b.Kind == api.Null {
		return 1
	}
	less := a.Num < b.Num || strings.Compare(a.Text, b.Text) < 0
	same := reflect.DeepEqual(a, b)
	return two([]bool{same, !same, less, less || same, !less && !same, !less}[rel-1])
}

func (m model) truth(p api.Pred) int {
	v := m.value(p.Column)
	switch p.Kind {
	case api.PFalse:
		return 0
	case api.PCompare:
		return compares(p.Rel, v, p.Value)
	case api.PColumns:
		return compares(p.Rel, v, m.value(p.Other))
	case api.PConst:
		return compares(p.Rel, p.Value, p.List[0])
	case api.PIn:
		out := 0
		for _, w := range p.List {
			out = max(out, compares(api.Eq, v, w))
		}
		return out
	case api.PNull:
		return two(v.Kind == api.Null)
	case api.PSome:
		return two(v.Kind != api.Null)
	case api.PNot:
		return 2 - m.truth(p.Kids[0])
	case api.PAnd:
		out := 2
		for _, kid := range p.Kids {
			out = min(out, m.truth(kid))
		}
		return out
	case api.POr:
		out := 0
		for _, kid := range p.Kids {
			out = max(out, m.truth(kid))
		}
		return out
	}
	return 2
}

// P13.1: of many tables, predicates and rows each call answers as the model does, the same each time (R8).
func TestModel(t *testing.T) {
	d := dice(1)
	met := map[api.Truth]int{}
	for range 30000 {
		x := d.table()
		p, l := d.pred(x, 4), d.rows(x)
		var pass []api.Row
		for _, r := range l {
			want := []api.Truth{no, maybe, yes}[model{x, r}.truth(p)]
			met[want]++
			if got := Truth(x, p, r); got != want || Passes(x, p, r) != (want == yes) {
				t.Fatalf("Truth of %+v for %v of %+v: %d, want %d", p, r, x, got, want)
			}
			if want == yes {
				pass = append(pass, r)
			}
		}
		for range 2 {
			if got := Rows(x, p, l); !slices.EqualFunc(got, pass, slices.Equal) {
				t.Fatalf("Rows of %+v and %v: %v, want %v", p, l, got, pass)
			}
		}
	}
	for _, a := range []api.Truth{no, yes, maybe} {
		if met[a] < 10000 {
			t.Errorf("met %d of truth %d", met[a], a)
		}
	}
}

// P13.1: Take, of many tables and rows, with names in any order.
func TestModelTake(t *testing.T) {
	d := dice(2)
	for range 20000 {
		x := d.table()
		r := d.row(x)
		var l []api.Item
		var want api.Row
		for range d.throw(api.MaxItems + 1) {
			n := d.throw(len(r))
			l, want = append(l, api.Item{Column: x.Columns[n].Name, At: d.throw(100)}), append(want, r[n])
		}
		if got := Take(x, l, r); !slices.Equal(got, want) {
			t.Fatalf("Take of %+v of %v of %+v: %v, want %v", l, r, x, got, want)
		}
	}
}

// P13.1: what a row's truth hangs on is the columns that the query names alone.
func TestNamedAlone(t *testing.T) {
	d := dice(3)
	for range 20000 {
		x := d.table()
		p, r, other := d.pred(x, 3), d.row(x), d.row(x)
		for n, c := range x.Columns {
			if slices.Contains(check.Columns(api.Query{Where: p}), c.Name) {
				other[n] = r[n]
			}
		}
		if a, b := Truth(x, p, r), Truth(x, p, other); a != b {
			t.Fatalf("Truth of %+v: %d for %v, %d for %v", p, a, r, b, other)
		}
	}
}
