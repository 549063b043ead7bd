package show

import (
	"reflect"
	"slices"
	"testing"

	"stillroom/api"
)

// roomy: a copy of a list, with room behind it that holds spare.
func roomy[L ~[]E, E any](l L, spare E) L {
	return append(slices.Grow(slices.Clone(l), 2), spare, spare)[:len(l)]
}

func lentPred(p api.Pred) api.Pred {
	p.List, p.Kids = roomy(p.List, num(5)), roomy(p.Kids, api.Pred{Kind: api.PFalse})
	for n := range p.Kids {
		p.Kids[n] = lentPred(p.Kids[n])
	}
	return p
}

// lent: a copy of a query, its lists roomy.
func lent(q api.Query) api.Query {
	q.Items, q.Group, q.Order = roomy(q.Items, api.Item{Agg: api.Rows}), roomy(q.Group, api.Item{Column: "z"}), roomy(q.Order, api.Key{Desc: true})
	q.Where = lentPred(q.Where)
	return q
}

func wholePred(p api.Pred) api.Pred {
	p.List, p.Kids = p.List[:cap(p.List)], slices.Clone(p.Kids[:cap(p.Kids)])
	for n := range p.Kids {
		p.Kids[n] = wholePred(p.Kids[n])
	}
	return p
}

// whole: a query, its lists with all that stands in their spare room.
func whole(q api.Query) api.Query {
	q.Items, q.Group, q.Order = q.Items[:cap(q.Items)], q.Group[:cap(q.Group)], q.Order[:cap(q.Order)]
	q.Where = wholePred(q.Where)
	return q
}

// R6, R8: what is handed in stays, spare room too; the text is the same each time.
func TestStays(t *testing.T) {
	for _, s := range []string{
		"SELECT a, COUNT(*), SUM(b) FROM t WHERE (a > 5 OR b = c OR NOT a IN (1, NULL, 'x')) AND 1 = 2 AND (a >= 1 AND a <= 2) GROUP BY a, b ORDER BY a, MAX(b) DESC LIMIT 7",
		"SELECT * FROM t WHERE a IS NULL AND NOT (b IS NOT NULL AND a IN (2, 1))",
		"SELECT * FROM t",
	} {
		q, twin := lent(read(t, s)), lent(read(t, s))
		for range 2 {
			if got := Query(q); got != s {
				t.Errorf("Query of %s: %s", s, got)
			}
			Pred(q.Where)
		}
		if !reflect.DeepEqual(q, twin) || !reflect.DeepEqual(whole(q), whole(twin)) {
			t.Errorf("of %s: what was handed in is now %+v", s, whole(q))
		}
	}
}

// P9: of what isn't promised each call ends, and doesn't panic.
func TestOdd(t *testing.T) {
	odd := api.Value{Kind: 9, Num: 3, Text: "\xff"}
	l := []api.Pred{{}}
	for kind := -1; kind < 13; kind++ {
		l = append(l, api.Pred{Kind: kind}, api.Pred{Kind: kind, Column: "\x00", Rel: 7, Value: odd, Other: "'", List: []api.Value{odd, odd}, Kids: []api.Pred{{}, {Kind: kind}, {Kind: kind, Kids: []api.Pred{{Kind: 99}}}}})
	}
	for _, p := range l {
		Pred(p)
		x := api.Item{Agg: api.Agg(p.Kind), Column: p.Column}
		Query(api.Query{Items: []api.Item{x, {}}, Where: p, Group: []api.Item{x}, Order: []api.Key{{Item: x}}, Limit: -p.Kind})
	}
	Query(api.Query{})
}
