package norm

import (
	"reflect"
	"slices"
	"testing"

	"stillroom/api"
)

// roomy: a copy of a list, with room behind it that holds spare.
func roomy[L ~[]E, E any](l L, spare E) L {
	return append(slices.Grow(slices.Clone(l), 3), spare, spare, spare)[:len(l)]
}

// lentPred: a copy of a predicate, its lists roomy.
func lentPred(p api.Pred) api.Pred {
	p.List, p.Kids = roomy(p.List, num(5)), roomy(p.Kids, api.Pred{Kind: api.PFalse})
	for n := range p.Kids {
		p.Kids[n] = lentPred(p.Kids[n])
	}
	return p
}

// lent: all that calls are handed in, its lists roomy.
type lent struct {
	table api.Table
	query api.Query
}

func lend(t *testing.T, s string) lent {
	x, q := asking(), checked(t, s)
	x.Columns = roomy(x.Columns, column("spare", api.Bool, true))
	q.Items, q.Group, q.Order = roomy(q.Items, api.Item{Agg: 5}), roomy(q.Group, api.Item{Agg: 5}), roomy(q.Order, api.Key{Desc: true})
	q.Where = lentPred(q.Where)
	return lent{x, q}
}

// asked: texts of queries that have lists of all kinds, in normal form and not.
func asked() []string {
	return []string{
		"SELECT a, b, MAX(e) FROM t WHERE (5 < a OR 1 = 2 OR NOT d IN (7, NULL, 3) OR d IN (3, 1, 1)) AND b IN ('y', 'x') AND NOT (g < d AND a NOT BETWEEN 1 AND 2) AND g IN (5, 6, NULL, 7) AND g <> 6 GROUP BY b, a ORDER BY a, b, MAX(b) DESC, a LIMIT 7",
		"SELECT * FROM t WHERE (d IN (1, 2) OR d IN (2, 1) OR e IN ('x', 'y')) AND (e IN ('y', 'x') OR d IN (2, 1)) AND h NOT IN ('a', 'b', 'a') ORDER BY c, d DESC, c, e",
		"SELECT a FROM t WHERE a IN (1, 2) AND b = 'x' OR a IN (1, 2) AND b = 'x' OR d IN (1, 2) GROUP BY a ORDER BY a",
		"SELECT b FROM t WHERE d IN (1, 2)", "SELECT b FROM t WHERE NOT NOT (NOT (d NOT IN (1, 2)) AND TRUE)", "SELECT b FROM t WHERE a = 1 OR b = 'x'",
		"SELECT COUNT(*) FROM t WHERE d IN (1, 2) AND d IN (3, 4) ORDER BY COUNT(*)",
	}
}

// room: where each part of a list is kept, spare room too.
func room[E any](l []E) []any {
	var out []any
	for n := range l[:cap(l)] {
		out = append(out, &l[:cap(l)][n])
	}
	return out
}

// roomsPred: likewise, of all lists of a predicate, of what stands in spare room too.
func roomsPred(p api.Pred) []any {
	l := append(room(p.List), room(p.Kids)...)
	for _, kid := range p.Kids[:cap(p.Kids)] {
		l = append(l, roomsPred(kid)...)
	}
	return l
}

// rooms: likewise, of a query.
func rooms(q api.Query) []any {
	return slices.Concat(room(q.Items), room(q.Group), room(q.Order), roomsPred(q.Where))
}

func (l lent) rooms() []any {
	return slices.Concat(room(l.table.Columns), room(l.query.Items), room(l.query.Group), room(l.query.Order), roomsPred(l.query.Where))
}

// held: what stands in places.
func held(l []any) []any {
	var out []any
	for _, at := range l {
		out = append(out, reflect.ValueOf(at).Elem().Interface())
	}
	return out
}

// written: writes over all of a predicate's lists, spare room too.
func written(p api.Pred) {
	for _, kid := range p.Kids[:cap(p.Kids)] {
		written(kid)
	}
	for n := range p.List[:cap(p.List)] {
		p.List[:cap(p.List)][n] = num(-9)
	}
	for n := range p.Kids[:cap(p.Kids)] {
		p.Kids[:cap(p.Kids)][n] = api.Pred{Kind: -9}
	}
}

// P14.4: what is handed in stays, spare room too, also when an answer is written over.
func TestStays(t *testing.T) {
	for _, s := range asked() {
		l, want := lend(t, s), lend(t, s)
		for range 2 {
			p := Pred(l.table, l.query.Where)
			q := Query(l.table, l.query)
			Compare(l.query.Where, p)
			Compare(l.query.Where, l.query.Where)
			written(p)
			written(q.Where)
			for n := range q.Items[:cap(q.Items)] {
				q.Items[:cap(q.Items)][n].Agg = -9
			}
			for n := range q.Group[:cap(q.Group)] {
				q.Group[:cap(q.Group)][n].Agg = -9
			}
			for n := range q.Order[:cap(q.Order)] {
				q.Order[:cap(q.Order)][n].Desc = true
			}
		}
		if !reflect.DeepEqual(l, want) || !reflect.DeepEqual(held(l.rooms()), held(want.rooms())) {
			t.Errorf("of %s: what was handed in is now %+v, %v", s, l, held(l.rooms()))
		}
	}
}

// P14.4: answers are new memory, spare room too: they share none with what is handed in, nor with one another; no two lists of one do.
func TestApart(t *testing.T) {
	for _, s := range asked() {
		l := lend(t, s)
		taken := map[any]string{}
		take := func(who string, places []any) {
			for _, at := range places {
				if taken[at] != "" {
					t.Errorf("of %s: %s shares a part with %s: %+v", s, who, taken[at], at)
				}
				taken[at] = who
			}
		}
		take("what is handed in", l.rooms())
		for _, who := range []string{"answer 1", "answer 2"} {
			take("predicate of "+who, roomsPred(Pred(l.table, l.query.Where)))
			q := Query(l.table, l.query)
			take(who, rooms(q))
			// Of a normal form too, which is as it is.
			take("normal form of "+who, rooms(Query(l.table, q)))
		}
	}
}

// P14.4: likewise, if lists that are handed in share memory.
func TestApartShared(t *testing.T) {
	list := []api.Value{num(1), num(2)}
	kids := []api.Pred{{Kind: api.PIn, Column: "d", List: list}, {Kind: api.PIn, Column: "a", List: list}}
	p := api.Pred{Kind: api.PAnd, Kids: []api.Pred{{Kind: api.POr, Kids: kids}, {Kind: api.PIn, Column: "g", List: list}, {Kind: api.PNot, Kids: []api.Pred{{Kind: api.PAnd, Kids: kids}}}}}
	got := Pred(asking(), p)
	seen := map[any]int{}
	for _, at := range append(roomsPred(got), room(list)...) {
		if seen[at]++; seen[at] > 1 {
			t.Errorf("Pred: %+v is shared", at)
		}
	}
	if len(seen) < 10 || !reflect.DeepEqual(list, []api.Value{num(1), num(2)}) || kids[0].Column != "d" {
		t.Errorf("Pred: %+v of %+v", got, p)
	}
}
