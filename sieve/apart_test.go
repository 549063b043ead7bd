package sieve

import (
	"reflect"
	"slices"
	"testing"

	"stillroom/api"
)

// roomy: a copy of a list, with room behind it that holds spare.
func roomy[L ~[]E, E any](l L, spare E) L {
	return append(slices.Grow(slices.Clone(l), 3), spare, spare, spare)[:len(l)]
}

// lentTable: the table, its columns roomy.
func lentTable() api.Table {
	x := asking()
	x.Columns = roomy(x.Columns, api.Column{Name: "spare", Kind: api.Bool})
	return x
}

// lentPred: a copy of a predicate, its lists roomy.
func lentPred(p api.Pred) api.Pred {
	p.List, p.Kids = roomy(p.List, num(5)), roomy(p.Kids, api.Pred{Kind: api.PFalse})
	for n := range p.Kids {
		p.Kids[n] = lentPred(p.Kids[n])
	}
	return p
}

// lentRows: some rows, roomy; some of them one row.
func lentRows() []api.Row {
	one := roomy(asked(), num(9))
	return roomy([]api.Row{one, roomy(bare(), num(9)), one, roomy(asked(), num(9)), one}, api.Row{num(9)})
}

// lentItems: all columns, and one twice.
func lentItems() []api.Item {
	l := []api.Item{{Column: "h"}}
	for _, c := range asking().Columns {
		l = append(l, api.Item{Column: c.Name})
	}
	return roomy(l, api.Item{Column: "spare"})
}

// lent: all that calls are handed in.
type lent struct {
	table api.Table
	pred  api.Pred
	rows  []api.Row
	items []api.Item
}

func lend(p api.Pred) lent {
	return lent{lentTable(), lentPred(p), lentRows(), lentItems()}
}

// preds: texts of predicates that have lists of all kinds, and pass the rows that are asked.
func preds() []string {
	return []string{
		"TRUE", "a IN (1, NULL, 5) AND (b = 'x' OR NOT (c IS NULL OR 1 = 2)) AND NOT d NOT IN (-7, 3)", "NOT (a = d OR e IN ('x', 'y', NULL) AND b NOT BETWEEN 'a' AND 'z')",
	}
}

// room: where each part of a list is kept, spare room too.
func room[E any](l []E) []any {
	var out []any
	for n := range l[:cap(l)] {
		out = append(out, &l[:cap(l)][n])
	}
	return out
}

// rooms: likewise, of rows, each once.
func rooms(l []api.Row) []any {
	out := room(l)
	seen := map[*api.Value]int{}
	for _, r := range l {
		if seen[&r[0]]++; seen[&r[0]] == 1 {
			out = append(out, room(r)...)
		}
	}
	return out
}

func roomsPred(p api.Pred) []any {
	l := append(room(p.List), room(p.Kids)...)
	for _, kid := range p.Kids {
		l = append(l, roomsPred(kid)...)
	}
	return l
}

func (l lent) rooms() []any {
	return slices.Concat(room(l.table.Columns), roomsPred(l.pred), rooms(l.rows), room(l.items))
}

// held: what stands in places.
func held(l []any) []any {
	var out []any
	for _, at := range l {
		out = append(out, reflect.ValueOf(at).Elem().Interface())
	}
	return out
}

// P13.2: what is handed in stays, spare room too, also when an answer is written over.
func TestStays(t *testing.T) {
	for _, s := range append(preds(), "FALSE", "a = NULL") {
		l, want := lend(read(t, s)), lend(read(t, s))
		for range 2 {
			Truth(l.table, l.pred, l.rows[1])
			Passes(l.table, l.pred, l.rows[0])
			for _, r := range append(Rows(l.table, l.pred, l.rows), Take(l.table, l.items, l.rows[0])) {
				for n := range r[:cap(r)] {
					r[:cap(r)][n] = num(-1)
				}
			}
		}
		if !reflect.DeepEqual(l, want) || !reflect.DeepEqual(held(l.rooms()), held(want.rooms())) {
			t.Errorf("of %s: what was handed in is now %+v, %v", s, l, held(l.rooms()))
		}
	}
}

// P13.2: answers are new memory, spare room too: they share none with what is handed in, nor with one another; no two rows of one do, even if one row was handed in twice.
func TestApart(t *testing.T) {
	for _, s := range preds() {
		l := lend(read(t, s))
		taken := map[any]string{}
		take := func(who string, places []any) {
			for _, at := range places {
				if taken[at] != "" {
					t.Errorf("of %s: %s shares a part with %s: %+v", s, who, taken[at], at)
				}
				taken[at] = who
			}
		}
		take("what is handed in", l.rooms())
		for _, who := range []string{"answer 1", "answer 2"} {
			got := Rows(l.table, l.pred, l.rows)
			if len(got) < 4 {
				t.Fatalf("Rows of %s: %v", s, got)
			}
			take("list of "+who, room(got))
			for _, r := range got {
				take("row of "+who, room(r))
			}
			take("Take's "+who, room(Take(l.table, l.items, l.rows[0])))
		}
	}
}
