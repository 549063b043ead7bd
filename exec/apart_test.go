package exec

import (
	"reflect"
	"slices"
	"testing"

	"stillroom/api"
	"stillroom/order"
)

// roomy: a copy of a list, with room behind it that holds spare.
func roomy[L ~[]E, E any](l L, spare E) L {
	return append(slices.Grow(slices.Clone(l), 3), spare, spare, spare)[:len(l)]
}

// whole: a copy of a list, with its spare room.
func whole[L ~[]E, E any](l L) L {
	return slices.Clone(l[:cap(l)])
}

// lent: all that calls are handed in.
type lent struct {
	tables []api.Table
	q      api.Query
	rows   []api.Row
	answer api.Answer
	bytes  []byte
}

// queries: texts, of which each kind of list is some.
func queries() []string {
	return []string{
		"SELECT * FROM u", "SELECT b, a, b FROM u WHERE c IN (7, 0) AND NOT (e = 'q' OR d IS NULL) ORDER BY a DESC, b LIMIT 3", "SELECT a, b FROM u ORDER BY a, b", "SELECT b, COUNT(*), SUM(c), MIN(e) FROM u WHERE a < 9 OR d = TRUE GROUP BY b ORDER BY MAX(a), b", "SELECT b, d FROM u GROUP BY b, d ORDER BY d, b", "SELECT COUNT(*), MAX(b) FROM u",
	}
}

// lend: a text's normal form, and the rest; all lists roomy, one row there twice.
func lend(t *testing.T, s string) lent {
	l := lent{tables: catalog(), q: normal(t, s)}
	for n := range l.tables {
		l.tables[n].Columns = roomy(l.tables[n].Columns, api.Column{Name: "spare", Kind: api.Int})
	}
	l.tables = roomy(l.tables, api.Table{Name: "spare"})
	l.q.Items, l.q.Group = roomy(l.q.Items, api.Item{Column: "spare"}), roomy(l.q.Group, api.Item{Column: "spare"})
	l.q.Order, l.q.Where.Kids = roomy(l.q.Order, api.Key{Desc: true}), roomy(l.q.Where.Kids, api.Pred{Kind: api.PFalse})
	for n := range l.q.Where.Kids {
		l.q.Where.Kids[n].List = roomy(l.q.Where.Kids[n].List, num(77))
	}
	for _, r := range some() {
		l.rows = append(l.rows, roomy(r, num(77)))
	}
	l.rows = roomy(append(l.rows, l.rows[2]), api.Row{num(77)})
	l.answer = api.Answer{Rows: l.rows}
	l.bytes = roomy(Payload(l.answer), 77)
	return l
}

// told: all that is handed in, spare room too, in new memory.
func (l lent) told() []any {
	out := []any{whole(l.tables), whole(l.q.Items), whole(l.q.Group), whole(l.q.Order), whole(l.q.Where.Kids), whole(l.rows), whole(l.bytes), l.q}
	for _, x := range l.tables {
		out = append(out, whole(x.Columns))
	}
	for _, p := range l.q.Where.Kids {
		out = append(out, whole(p.List))
	}
	for _, r := range l.rows {
		out = append(out, whole(r))
	}
	return out
}

// room: where each part of a list is kept, spare room too.
func room[E any](l []E) []any {
	var out []any
	for n := range l[:cap(l)] {
		out = append(out, &l[:cap(l)][n])
	}
	return out
}

// spoil writes over a list, and its spare room.
func spoil[E any](l []E, with E) {
	for n := range l[:cap(l)] {
		l[:cap(l)][n] = with
	}
}

// spoilLines writes over lines, with their lists.
func spoilLines(l []order.Line) {
	for _, x := range l {
		spoil(x.Keys, num(-9))
		spoil(x.Tie, num(-9))
		spoil(x.Out, num(-9))
	}
	spoil(l, order.Line{})
}

// spoilRows writes over rows.
func spoilRows(l []api.Row) {
	for _, r := range l {
		spoil(r, num(-9))
	}
	spoil(l, nil)
}

// spoilQuery writes over a query's lists.
func spoilQuery(q api.Query) {
	spoil(q.Items, api.Item{Column: "gone"})
	spoil(q.Group, api.Item{Column: "gone"})
	spoil(q.Order, api.Key{Desc: true})
	for _, p := range q.Where.Kids {
		spoil(p.List, num(-9))
	}
	spoil(q.Where.Kids, api.Pred{Kind: api.PFalse})
}

// P19.3: what is handed in stays, spare room too, also when an answer is written over.
func TestStays(t *testing.T) {
	p := example(t).Now()
	for _, s := range queries() {
		l := lend(t, s)
		want := l.told()
		first, _, _ := Ask(p, s)
		for range 2 {
			spoil(Falls(l.q), true)
			lines, _ := Lines(l.tables[1], l.q, l.rows)
			spoilLines(lines)
			spoilRows(Run(p, l.q).Rows)
			spoil(Payload(l.answer), 9)
			a, _ := Read(l.bytes[:len(l.bytes):len(l.bytes)])
			spoilRows(a.Rows)
			q, _, _ := Normal(s, l.tables)
			spoilQuery(q)
			a, _, _ = Ask(p, s)
			if !like(a, first) {
				t.Errorf("Ask of %s: %v, was %v", s, a, first)
			}
			spoilRows(a.Rows)
		}
		if got := l.told(); !reflect.DeepEqual(got, want) {
			t.Errorf("%s: what was handed in is now %v, was %v", s, got, want)
		}
	}
}

// P19.3: answers are new memory, spare room too: they share none with what is handed in, nor with one another; no two lists of one do, even if one row was handed in twice.
func TestApart(t *testing.T) {
	p := example(t).Now()
	for _, s := range queries() {
		l := lend(t, s)
		taken := map[any]string{}
		take := func(who string, places []any) {
			for _, at := range places {
				if taken[at] != "" {
					t.Errorf("%s: %s shares a part with %s: %+v", s, who, taken[at], at)
				}
				taken[at] = who
			}
		}
		takeRows := func(who string, rows []api.Row) {
			take("list of "+who, room(rows))
			for _, r := range rows {
				take("row of "+who, room(r))
			}
		}
		take("queries", slices.Concat(room(l.q.Items), room(l.q.Group), room(l.q.Order), room(l.q.Where.Kids)))
		take("bytes", room(l.bytes))
		takeRows("what is handed in", l.rows[:len(some())])
		for range 2 {
			take("Falls", room(Falls(l.q)))
			lines, _ := Lines(l.tables[1], l.q, l.rows)
			take("list of Lines", room(lines))
			for _, x := range lines {
				take("line", slices.Concat(room(x.Keys), room(x.Tie), room(x.Out)))
			}
			takeRows("Run", Run(p, l.q).Rows)
			take("Payload", room(Payload(l.answer)))
			a, e := Read(l.bytes)
			if e != api.OK {
				t.Fatalf("Read: %d", e)
			}
			takeRows("Read", a.Rows)
			a, _, _ = Ask(p, s)
			takeRows("Ask", a.Rows)
			q, _, _ := Normal(s, l.tables)
			take("Normal", slices.Concat(room(q.Items), room(q.Group), room(q.Order), room(q.Where.Kids)))
			for _, p := range q.Where.Kids {
				take("list of Normal", room(p.List))
			}
		}
	}
}

// P19.3: what was answered stays, when what was handed in is written over.
func TestKept(t *testing.T) {
	for _, s := range queries() {
		l, again := lend(t, s), lend(t, s)
		lines, _ := Lines(l.tables[1], l.q, l.rows)
		q, _, _ := Normal(s, l.tables)
		a, _ := Read(l.bytes)
		for n := range l.tables {
			spoil(l.tables[n].Columns, api.Column{Name: "gone"})
		}
		spoil(l.tables, api.Table{Name: "gone"})
		spoilRows(l.rows)
		spoil(l.bytes, 9)
		spoilQuery(l.q)
		want, _ := Lines(again.tables[1], again.q, again.rows)
		if !reflect.DeepEqual(lines, want) || !reflect.DeepEqual(q, normal(t, s)) || !like(a, again.answer) {
			t.Errorf("%s: what was answered is now %v, %+v, %v", s, lines, q, a)
		}
	}
}
