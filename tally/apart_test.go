package tally

import (
	"reflect"
	"slices"
	"testing"

	"stillroom/api"
)

// roomy: a copy of a list, with room behind it that holds spare.
func roomy[L ~[]E, E any](l L, spare E) L {
	return append(slices.Grow(slices.Clone(l), 3), spare, spare, spare)[:len(l)]
}

// lent: all that calls are handed in.
type lent struct {
	table api.Table
	items []api.Item
	rows  []api.Row
}

// lend: by columns, some rows, one of them twice; all lists roomy.
func lend(names ...string) lent {
	x := asking()
	x.Columns = roomy(x.Columns, api.Column{Name: "spare", Kind: api.Bool})
	var l []api.Row
	for _, r := range some() {
		l = append(l, roomy(r, num(9)))
	}
	return lent{x, roomy(by(names...), api.Item{Column: "spare"}), roomy(append(l, l[0], l[3]), api.Row{num(9)})}
}

// room: where each part of a list is kept, spare room too.
func room[E any](l []E) []any {
	var out []any
	for n := range l[:cap(l)] {
		out = append(out, &l[:cap(l)][n])
	}
	return out
}

// rooms: of all that is handed in, rows each once.
func (l lent) rooms() []any {
	out := slices.Concat(room(l.table.Columns), room(l.items), room(l.rows))
	for _, r := range l.rows[:len(some())] {
		out = append(out, room(r)...)
	}
	return out
}

// held: what stands in places.
func held(l []any) []any {
	var out []any
	for _, at := range l {
		out = append(out, reflect.ValueOf(at).Elem().Interface())
	}
	return out
}

// asked: names to group by.
func asked() [][]string {
	return [][]string{{}, {"b"}, {"d"}, {"c", "d"}, {"a"}}
}

// P17.3: what is handed in stays, spare room too, also when an answer is written over.
func TestStays(t *testing.T) {
	for _, names := range asked() {
		l, want := lend(names...), lend(names...)
		for range 2 {
			for agg := range api.Max + 1 {
				Of(l.table, api.Item{Agg: agg, Column: "c"}, l.rows)
			}
			for _, g := range Groups(l.table, l.items, l.rows) {
				for _, r := range append(g.Rows[:cap(g.Rows)], g.Key) {
					for n := range r[:cap(r)] {
						r[:cap(r)][n] = num(-1)
					}
				}
				clear(g.Rows[:cap(g.Rows)])
			}
		}
		if !reflect.DeepEqual(l, want) || !reflect.DeepEqual(held(l.rooms()), held(want.rooms())) {
			t.Errorf("by %v: what was handed in is now %+v, %v", names, l, held(l.rooms()))
		}
	}
}

// P17.3: answers are new memory, spare room too: they share none with what is handed in, nor with one another; no two lists of one do, even if one row was handed in twice.
func TestApart(t *testing.T) {
	for _, names := range asked() {
		l := lend(names...)
		taken := map[any]string{}
		take := func(who string, places []any) {
			for _, at := range places {
				if taken[at] != "" {
					t.Errorf("by %v: %s shares a part with %s: %+v", names, who, taken[at], at)
				}
				taken[at] = who
			}
		}
		take("what is handed in", l.rooms())
		for _, who := range []string{"answer 1", "answer 2"} {
			got := Groups(l.table, l.items, l.rows)
			take("list of "+who, room(got))
			for _, g := range got {
				take("key of "+who, room(g.Key))
				take("rows of "+who, room(g.Rows))
				for _, r := range g.Rows {
					take("row of "+who, room(r))
				}
			}
		}
	}
}
