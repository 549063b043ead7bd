package check

import (
	"reflect"
	"slices"
	"testing"

	"stillroom/api"
)

// listed: texts of queries that have lists of all kinds.
var listed = []string{
	"SELECT a, b, MAX(c) FROM t WHERE (5 < a OR 1 = 2 OR NOT a IN (1, NULL, 3)) AND b NOT IN ('x', 'y') AND 3 > NULL AND a NOT BETWEEN 1 AND 2 AND c IS NULL GROUP BY a, b, c ORDER BY a, b, MAX(b) DESC LIMIT 7",
	"SELECT * FROM t WHERE NOT (a = d OR e IN ('x', 'y', NULL)) ORDER BY c, d DESC, e",
}

// roomy: a copy of a list, with room behind it that holds spare.
func roomy[L ~[]E, E any](l L, spare E) L {
	return append(slices.Grow(slices.Clone(l), 3), spare, spare, spare)[:len(l)]
}

// lentPred: a copy of a predicate, its lists roomy.
func lentPred(p api.Pred) api.Pred {
	p.List, p.Kids = roomy(p.List, api.Value{Num: 5}), roomy(p.Kids, api.Pred{Kind: 5})
	for n := range p.Kids {
		p.Kids[n] = lentPred(p.Kids[n])
	}
	return p
}

// lent: a text's query, its lists roomy.
func lent(t *testing.T, text string) api.Query {
	q := read(t, text)
	q.Items, q.Group, q.Order = roomy(q.Items, api.Item{Agg: 5}), roomy(q.Group, api.Item{Agg: 5}), roomy(q.Order, api.Key{Desc: true})
	q.Where = lentPred(q.Where)
	return q
}

// lentTables: the catalog, its lists roomy.
func lentTables() []api.Table {
	l := roomy(catalog(), api.Table{Name: "spare"})
	for n := range l {
		l[n].Columns = roomy(l[n].Columns, column("spare", api.Bool, true))
	}
	return l
}

// room: where each part of a list is kept, spare room too.
func room[E any](l []E) []any {
	var out []any
	for n := range l[:cap(l)] {
		out = append(out, &l[:cap(l)][n])
	}
	return out
}

// rooms: likewise, of all lists of a query.
func rooms(q api.Query) []any {
	return slices.Concat(room(q.Items), room(q.Group), room(q.Order), roomsPred(q.Where))
}

func roomsPred(p api.Pred) []any {
	l := append(room(p.List), room(p.Kids)...)
	for _, kid := range p.Kids {
		l = append(l, roomsPred(kid)...)
	}
	return l
}

// roomsTables: likewise, of a catalog.
func roomsTables(l []api.Table) []any {
	out := room(l)
	for _, t := range l {
		out = append(out, room(t.Columns)...)
	}
	return out
}

// held: what stands in places.
func held(l []any) []any {
	var out []any
	for _, at := range l {
		out = append(out, reflect.ValueOf(at).Elem().Interface())
	}
	return out
}

// P12.3: what is handed in stays, spare room too, whatever is answered.
func TestStays(t *testing.T) {
	for _, text := range append([]string{"SELECT z FROM t", "SELECT a FROM t WHERE a IN (1, 'x')", "SELECT a FROM t GROUP BY b", "SELECT a FROM v"}, listed...) {
		q, l := lent(t, text), lentTables()
		for range 2 {
			Check(q, l)
			Grouped(q)
			Columns(q)
			Kind(l[1], api.Item{Agg: api.Min, Column: "b"})
		}
		want, tables := lent(t, text), lentTables()
		if !reflect.DeepEqual(q, want) || !reflect.DeepEqual(l, tables) {
			t.Errorf("of %s: what was handed in is now %+v, %+v", text, q, l)
		}
		if !reflect.DeepEqual(held(rooms(q)), held(rooms(want))) || !reflect.DeepEqual(held(roomsTables(l)), held(roomsTables(tables))) {
			t.Errorf("of %s: the spare room of what was handed in isn't as it was", text)
		}
	}
}

// P12.3: answers are new memory, spare room too: they share none with what is handed in, nor with one another; no two lists of one do.
func TestApart(t *testing.T) {
	for _, text := range listed {
		q, l := lent(t, text), lentTables()
		taken := map[any]string{}
		take := func(who string, places []any) {
			for _, at := range places {
				if taken[at] != "" {
					t.Errorf("of %s: %s shares a part with %s: %+v", text, who, taken[at], at)
				}
				taken[at] = who
			}
		}
		take("the query", rooms(q))
		take("the catalog", roomsTables(l))
		for _, who := range []string{"answer 1", "answer 2"} {
			got, _, e := Check(q, l)
			if e != api.OK || len(rooms(got)) < 12 {
				t.Fatalf("Check(%s): %+v, %d", text, got, e)
			}
			take(who, rooms(got))
			take("columns of "+who, room(Columns(q)))
		}
	}
}
