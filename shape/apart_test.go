package shape

import (
	"reflect"
	"runtime/debug"
	"slices"
	"strings"
	"testing"

	"stillroom/api"
)

// roomy: a copy of a list, with room behind it that holds spare.
func roomy[L ~[]E, E any](l L, spare E) L {
	return append(slices.Grow(slices.Clone(l), 3), spare, spare, spare)[:len(l)]
}

func lentPred(p api.Pred) api.Pred {
	p.List, p.Kids = roomy(p.List, num(5)), roomy(p.Kids, api.Pred{Kind: api.PFalse})
	for n := range p.Kids {
		p.Kids[n] = lentPred(p.Kids[n])
	}
	return p
}

// lent: a copy of a query, its lists roomy.
func lent(q api.Query) api.Query {
	q.Items, q.Group, q.Order = roomy(q.Items, api.Item{Agg: api.Rows}), roomy(q.Group, api.Item{Column: "z"}), roomy(q.Order, api.Key{Desc: true})
	q.Where = lentPred(q.Where)
	return q
}

func wholePred(p api.Pred) api.Pred {
	p.List, p.Kids = p.List[:cap(p.List)], slices.Clone(p.Kids[:cap(p.Kids)])
	for n := range p.Kids {
		p.Kids[n] = wholePred(p.Kids[n])
	}
	return p
}

// whole: a query, its lists with all that stands in their spare room.
func whole(q api.Query) api.Query {
	q.Items, q.Group, q.Order = q.Items[:cap(q.Items)], q.Group[:cap(q.Group)], q.Order[:cap(q.Order)]
	q.Where = wholePred(q.Where)
	return q
}

func asked() []string {
	return []string{
		"SELECT a, COUNT(*), SUM(d) FROM t WHERE (a > 5 OR b = 'x' OR NOT a IN (1, NULL, 7)) AND 1 = 2 AND a BETWEEN 1 AND 2 GROUP BY a, b ORDER BY a, MAX(b) DESC LIMIT 7",
		"SELECT a FROM t WHERE a IN (1, 2, 3)", "SELECT a FROM t WHERE 1 < 2", "SELECT a FROM t WHERE a = 1", "SELECT * FROM t",
	}
}

// P16.3, R6, R8: a query stays, spare room too, whatever becomes of its shape; its shape stays, whatever becomes of the query.
func TestApart(t *testing.T) {
	for _, s := range asked() {
		q, twin := lent(read(t, s)), lent(read(t, s))
		first, other := Of(q), Of(q)
		want := slices.Clone(other.Params)
		for n := range 3 {
			Route(q, n)
		}
		spoilt := first.Params[:cap(first.Params)]
		for n := range spoilt {
			spoilt[n] = text("spoilt")
		}
		if !reflect.DeepEqual(whole(q), whole(twin)) {
			t.Errorf("of %s: what was handed in is now %+v", s, whole(q))
		}
		if !slices.Equal(other.Params, want) || !reflect.DeepEqual(Of(q), other) {
			t.Errorf("of %s: the second shape is now %v", s, other)
		}
		spoil(q.Where)
		if !slices.Equal(other.Params, want) {
			t.Errorf("of %s: when the query was changed, its shape was: %v", s, other)
		}
	}
}

// spoil changes all literals that stand in a predicate's lists.
func spoil(p api.Pred) {
	for n := range p.List[:cap(p.List)] {
		p.List[:cap(p.List)][n] = num(99)
	}
	for n := range p.Kids {
		p.Kids[n].Value = num(99)
		spoil(p.Kids[n])
	}
}

// P16.3, R6, R8: a shape that is filled stays, spare room too.
func TestFillStays(t *testing.T) {
	for _, params := range []api.Row{{num(1), text("?"), {}}, {num(1), text("?")}, {num(1), {Kind: 9}, {}}, nil} {
		s := Shape{"? ? ?", roomy(params, truth(1))}
		twin := Shape{"? ? ?", roomy(params, truth(1))}
		got, e := Fill(s)
		again, f := Fill(s)
		if got != again || e != f {
			t.Errorf("Fill of %v: %q, %d, then %q, %d", s, got, e, again, f)
		}
		if !reflect.DeepEqual(s, twin) || !slices.Equal(s.Params[:cap(s.Params)], twin.Params[:cap(twin.Params)]) {
			t.Errorf("Fill changed %v to %v", twin, s)
		}
	}
}

// P9: of what isn't promised each call ends, and doesn't panic.
func TestOdd(t *testing.T) {
	odd := api.Value{Kind: 9, Num: 3, Text: "?"}
	for kind := -1; kind < 13; kind++ {
		for _, p := range []api.Pred{{Kind: kind}, {Kind: kind, Column: "?", Rel: 7, Value: odd, Other: "'", List: []api.Value{odd, odd}, Kids: []api.Pred{{}, {Kind: kind}, {Kind: 99, Kids: []api.Pred{{}}}}}} {
			q := api.Query{Items: []api.Item{{Agg: api.Agg(kind), Column: "?"}}, Table: "?", Where: p, Limit: -kind}
			Fill(Of(q))
			Route(q, kind)
		}
	}
	Fill(Of(api.Query{}))
}

// P9, P16.1: predicates of any depth, and with any number of Kids.
func TestDeep(t *testing.T) {
	defer debug.SetMaxStack(debug.SetMaxStack(1 << 22))
	const many = 100000
	p := api.Pred{Kind: api.PCompare, Column: "a", Rel: api.Eq, Value: num(many)}
	flat := api.Pred{Kind: api.POr}
	for n := many - 1; n >= 0; n-- {
		one := api.Pred{Kind: api.PCompare, Column: "a", Rel: api.Eq, Value: num(n)}
		p = api.Pred{Kind: api.PAnd, Kids: []api.Pred{one, p}}
		flat.Kids = append(flat.Kids, one)
	}
	s := Of(api.Query{All: true, Table: "t", Where: p, Limit: -1})
	if want := "SELECT * FROM t WHERE " + strings.Repeat("a = ? AND (", many-1) + "a = ? AND a = ?" + strings.Repeat(")", many-1); s.Text != want || len(s.Params) != many+1 {
		t.Errorf("Of a deep one: %d bytes, %d params", len(s.Text), len(s.Params))
	}
	for n, v := range s.Params {
		if v != num(n) {
			t.Fatalf("Of a deep one: %v is param %d", v, n)
		}
	}
	s = Of(api.Query{All: true, Table: "t", Where: flat, Limit: -1})
	if s.Text != "SELECT * FROM t WHERE a = ?"+strings.Repeat(" OR a = ?", many-1) || len(s.Params) != many || s.Params[0] != num(many-1) || s.Params[many-1] != num(0) {
		t.Errorf("Of a wide one: %d bytes, %d params", len(s.Text), len(s.Params))
	}
}
