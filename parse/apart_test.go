package parse

import (
	"reflect"
	"slices"
	"testing"

	"stillroom/api"
)

// listed: a text of a query that has lists of all kinds.
const listed = "SELECT a, COUNT(*), SUM(b) FROM t WHERE (5 < a OR 1 = 2 OR NOT a IN (1, NULL, 'x')) AND b NOT IN (2, 3, 4) AND 3 > 4 AND a NOT BETWEEN 1 AND 2 AND b BETWEEN 3 AND 4 GROUP BY a, b, c ORDER BY a, b, MAX(b) DESC LIMIT 7"

// room: where each part of a list is kept, spare room too.
func room[E any](l []E) []any {
	var out []any
	for n := range l[:cap(l)] {
		out = append(out, &l[:cap(l)][n])
	}
	return out
}

// rooms: likewise, of all lists of a query.
func rooms(q api.Query) []any {
	l := slices.Concat(room(q.Items), room(q.Group), room(q.Order))
	for _, p := range preds(&q.Where) {
		l = append(l, append(room(p.List), room(p.Kids)...)...)
	}
	return l
}

// P11.2: answers are new memory, spare room too; no two lists share any, nor do two answers.
func TestApart(t *testing.T) {
	taken := map[any]int{}
	for n := range 4 {
		q, _, _ := Parse(listed)
		l := rooms(q)
		if len(l) < 9+9+14 {
			t.Errorf("just %d parts", len(l))
		}
		for _, at := range l {
			if m, ok := taken[at]; ok {
				t.Errorf("answer %d shares a part with answer %d: %+v", n, m, at)
			}
			taken[at] = n
		}
	}
}

// roomy: a copy of a list, with room behind it that holds spare.
func roomy[L ~[]E, E any](l L, spare ...E) L {
	return append(slices.Grow(slices.Clone(l), len(spare)), spare...)[:len(l)]
}

func lentPred(p api.Pred) api.Pred {
	p.List = roomy(p.List, api.Value{Num: 5})
	p.Kids = roomy(p.Kids, api.Pred{Kind: 5})
	for n := range p.Kids {
		p.Kids[n] = lentPred(p.Kids[n])
	}
	return p
}

// lent: the query, all lists with spare room that holds something.
func lent() api.Query {
	q, _, _ := Parse(listed)
	q.Items, q.Group, q.Order = roomy(q.Items, api.Item{Agg: 5}), roomy(q.Group, api.Item{Agg: 5}), roomy(q.Order, api.Key{Desc: true})
	q.Where = lentPred(q.Where)
	return q
}

// P11.2: what is handed in to Same and SamePred stays, spare room too.
func TestLent(t *testing.T) {
	a, b := lent(), lent()
	if !Same(a, b) || !SamePred(a.Where, b.Where) {
		t.Error("not the same")
	}
	want := lent()
	for _, q := range []api.Query{a, b} {
		if !reflect.DeepEqual(q, want) || !reflect.DeepEqual(rooms(q), rooms(want)) {
			t.Errorf("what was handed in is now %+v", q)
		}
	}
}
