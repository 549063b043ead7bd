package exec

import (
	"cmp"
	"maps"
	"math/big"
	"reflect"
	"slices"
	"strings"
	"testing"

	"stillroom/api"
	"stillroom/parse"
	"stillroom/show"
	"stillroom/sieve"
	"stillroom/store"
)

// model answers a query, as it was written, by the chapters' words.
type model struct {
	t    api.Table
	q    api.Query
	over bool
}

// of: a row's value of a column.
func (m *model) of(r api.Row, name string) api.Value {
	return r[slices.IndexFunc(m.t.Columns, func(c api.Column) bool { return c.Name == name })]
}

// compared: two values, by the order that chapter 1 has.
func compared(a, b api.Value) int {
	return cmp.Or(cmp.Compare(a.Kind, b.Kind), cmp.Compare(a.Num, b.Num), strings.Compare(a.Text, b.Text))
}

// reckoned: an aggregate of rows.
func (m *model) reckoned(x api.Item, l []api.Row) api.Value {
	var there []api.Value
	for _, r := range l {
		if x.Agg != api.Rows && m.of(r, x.Column) != null {
			there = append(there, m.of(r, x.Column))
		}
	}
	sum := new(big.Int)
	for _, v := range there {
		sum.Add(sum, big.NewInt(int64(v.Num)))
	}
	switch {
	case x.Agg == api.Rows:
		return num(len(l))
	case x.Agg == api.Count:
		return num(len(there))
	case len(there) == 0:
		return null
	case x.Agg == api.Min:
		return slices.MinFunc(there, compared)
	case x.Agg == api.Max:
		return slices.MaxFunc(there, compared)
	}
	m.over = m.over || !sum.IsInt64()
	return num(int(sum.Int64()))
}

// told: what an item is for rows that are one line.
func (m *model) told(x api.Item, l []api.Row) api.Value {
	if x.Agg != api.Plain {
		return m.reckoned(x, l)
	}
	return m.of(l[0], x.Column)
}

// parts: the rows that are one line each, and whether the query is grouped.
func (m *model) parts(l []api.Row) ([][]api.Row, bool) {
	aggregate := func(x api.Item) bool { return x.Agg != api.Plain }
	grouped := len(m.q.Group) > 0 || slices.ContainsFunc(m.q.Items, aggregate)
	for _, k := range m.q.Order {
		grouped = grouped || aggregate(k.Item)
	}
	if grouped && len(m.q.Group) == 0 {
		return [][]api.Row{l}, true
	}
	parts := map[string][]api.Row{}
	for _, r := range l {
		key := written(r[:m.t.Keys])
		if grouped {
			key = ""
			for _, x := range m.q.Group {
				key += written(api.Row{m.of(r, x.Column)}) + " "
			}
		}
		parts[key] = append(parts[key], r)
	}
	return slices.Collect(maps.Values(parts)), grouped
}

// answer: what the query answers of a table's rows.
func (m *model) answer(l []api.Row) api.Answer {
	type line struct {
		by  []api.Value // the keys of the ORDER BY, then what settles
		out api.Row
	}
	l = slices.DeleteFunc(slices.Clone(l), func(r api.Row) bool { return !sieve.Passes(m.t, m.q.Where, r) })
	parts, grouped := m.parts(l)
	var tie []string
	for _, x := range m.q.Group {
		tie = append(tie, x.Column)
	}
	slices.Sort(tie)
	if !grouped {
		for _, c := range m.t.Columns[:m.t.Keys] {
			tie = append(tie, c.Name)
		}
	}
	items := m.q.Items
	if m.q.All {
		items = nil
		for _, c := range m.t.Columns {
			items = append(items, api.Item{Column: c.Name})
		}
	}
	var lines []line
	for _, part := range parts {
		var x line
		for _, k := range m.q.Order {
			if len(m.q.Group) > 0 || !grouped {
				x.by = append(x.by, m.told(k.Item, part))
			}
		}
		for _, name := range tie {
			x.by = append(x.by, m.of(part[0], name))
		}
		for _, i := range items {
			x.out = append(x.out, m.told(i, part))
		}
		lines = append(lines, x)
	}
	slices.SortFunc(lines, func(a, b line) int {
		for n := range a.by {
			if c := compared(a.by[n], b.by[n]); c != 0 {
				if n < len(m.q.Order) && m.q.Order[n].Desc {
					c = -c
				}
				return c
			}
		}
		return 0
	})
	if m.over {
		return api.Answer{Err: api.ErrOver}
	}
	var out api.Answer
	for n, x := range lines {
		if m.q.Limit < 0 || n < m.q.Limit {
			out.Rows = append(out.Rows, x.out)
		}
	}
	return out
}

// like: are two answers the same?
func like(a, b api.Answer) bool {
	return a.Err == b.Err && slices.EqualFunc(a.Rows, b.Rows, slices.Equal)
}

// trial: a snapshot of any rows, and a query of one of its tables as a text, and as it is read.
func trial(t *testing.T, d *dice) (*store.Snapshot, api.Table, string, api.Query) {
	t.Helper()
	small, large := d.rows(catalog()[0]), d.rows(wide())
	p := filled(t, small, large).Now()
	x := one(d, catalog()[0], wide(), wide())
	s := show.Query(d.query(x))
	q, _, e := parse.Parse(s)
	if e != api.OK {
		t.Fatalf("Parse of %s: %d", s, e)
	}
	return p, x, s, q
}

// P19.1: what many texts answer, of many tables, is what the model does, the same each time (R8).
func TestModel(t *testing.T) {
	d := dice(1)
	over, more := 0, 0
	for range 12000 {
		p, x, s, q := trial(t, &d)
		rows, _ := p.Rows(x.Name)
		m := model{t: x, q: q}
		want := m.answer(rows)
		for range 2 {
			if got, at, e := Ask(p, s); !like(got, want) || at != 0 || e != api.OK {
				t.Fatalf("Ask of %s of %v: %v, %d, %d, want %v", s, rows, got, at, e, want)
			}
		}
		if got, e := Read(Payload(want)); !like(got, want) || e != api.OK {
			t.Fatalf("of the bytes of %v is read: %v, %d", want, got, e)
		}
		if want.Err != api.OK {
			over++
		}
		if len(want.Rows) > 1 {
			more++
		}
	}
	if over < 300 || more < 3000 {
		t.Errorf("%d errors, %d answers of some rows", over, more)
	}
}

// P19.1: lines are what stands for each row, or group, whatever order rows come in; those of groups come the same.
func TestModelLines(t *testing.T) {
	d := dice(2)
	for range 4000 {
		p, x, s, _ := trial(t, &d)
		q := normal(t, s)
		rows, _ := p.Rows(x.Name)
		want, e := Lines(x, q, rows)
		grouped := len(q.Group) > 0 || slices.ContainsFunc(q.Items, func(x api.Item) bool { return x.Agg != api.Plain })
		if !grouped {
			slices.Reverse(want)
		}
		slices.Reverse(rows)
		got, f := Lines(x, q, rows)
		if e != f || !reflect.DeepEqual(got, want) && len(got)+len(want) > 0 {
			t.Fatalf("Lines of %s of %v: %v, %d, want %v, %d", s, rows, got, f, want, e)
		}
		if e == api.OK && !grouped && len(got) != len(sieve.Rows(x, q.Where, rows)) {
			t.Fatalf("Lines of %s of %v: %v", s, rows, got)
		}
	}
}

// stirred: another query of the same normal form: groups in another order, keys that come again, a predicate with NOT NOT ahead, its Kids in another order, some twice.
func (d *dice) stirred(q api.Query) api.Query {
	q.Group, q.Order = slices.Clone(q.Group), slices.Clone(q.Order)
	slices.Reverse(q.Group)
	for _, k := range q.Order {
		q.Order = append(q.Order, api.Key{Item: k.Item, Desc: d.throw(2) == 0})
	}
	if kids := q.Where.Kids; q.Where.Kind == api.PAnd || q.Where.Kind == api.POr {
		kids = append(slices.Clone(kids), kids[0])
		slices.Reverse(kids)
		q.Where.Kids = kids
	}
	if q.Where.Kind == 0 {
		q.Where = api.Pred{Kind: api.PTrue}
	}
	not := func(p api.Pred) api.Pred { return api.Pred{Kind: api.PNot, Kids: []api.Pred{p}} }
	q.Where = not(not(q.Where))
	return q
}

// P19.2: the text of a normal form, and a text that has the same one, answer what the text does.
func TestModelSameForm(t *testing.T) {
	d := dice(3)
	own := 0
	for range 6000 {
		p, _, s, read := trial(t, &d)
		q := normal(t, s)
		want, _, _ := Ask(p, s)
		for _, x := range []string{show.Query(q), show.Query(d.stirred(read))} {
			y, _, e := Normal(x, catalog())
			if e == api.ErrDeep || e == api.ErrFull || e == api.ErrLong {
				continue
			}
			if e != api.OK || !parse.Same(y, q) {
				t.Fatalf("Normal of %s: %+v, %d, want %+v", x, y, e, q)
			}
			if got, _, e := Ask(p, x); !like(got, want) || e != api.OK {
				t.Fatalf("Ask of %s: %v, %d, want %v as of %s", x, got, e, want, s)
			}
			own++
		}
	}
	if own < 10000 {
		t.Errorf("just %d texts", own)
	}
}
