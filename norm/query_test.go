package norm

import (
	"slices"
	"testing"

	"stillroom/api"
	"stillroom/parse"
)

// unplaced: a query is without places.
func unplaced(q api.Query) bool {
	for _, x := range slices.Concat(q.Items, q.Group) {
		if x.At != 0 {
			return false
		}
	}
	for _, k := range q.Order {
		if k.Item.At != 0 {
			return false
		}
	}
	return q.At == 0 && !placed(q.Where)
}

// P14.1: a query's normal form is the tree that want is read as; that is one's own.
func TestQuery(t *testing.T) {
	for _, c := range [][2]string{
		{"SELECT a FROM t", "SELECT a FROM t"},
		{"SELECT * FROM t", "SELECT a, b, c, d, e, f, g, h FROM t"},
		{"SELECT * FROM t WHERE b IN ('y', 'x') AND d = 2 AND a > 1 ORDER BY b DESC, a, b LIMIT 4", "SELECT a, b, c, d, e, f, g, h FROM t WHERE a >= 2 AND d = 2 AND b IN ('x', 'y') ORDER BY b DESC, a LIMIT 4"},
		{"SELECT b, a, b FROM t LIMIT 0", "SELECT b, a, b FROM t LIMIT 0"},
		{"SELECT a FROM t LIMIT 1000", "SELECT a FROM t LIMIT 1000"},
		{"SELECT a FROM t WHERE TRUE", "SELECT a FROM t"},
		{"SELECT a FROM t WHERE a IS NOT NULL OR d = 1", "SELECT a FROM t"},
		{"SELECT a FROM t WHERE NOT 1 = 2 ORDER BY a", "SELECT a FROM t ORDER BY a"},
		{"SELECT a FROM t WHERE a = 1 AND a = 2", "SELECT a FROM t WHERE FALSE"},
		{"SELECT a FROM t WHERE NOT (a = 1 OR b = 'x')", "SELECT a FROM t WHERE a <> 1 AND b <> 'x'"},
		{"SELECT a FROM t ORDER BY b, a, b DESC, a DESC, d", "SELECT a FROM t ORDER BY b, a, d"},
		{"SELECT a FROM t ORDER BY b DESC, b, b DESC", "SELECT a FROM t ORDER BY b DESC"},
		{"SELECT a, MAX(b) FROM t GROUP BY a ORDER BY MAX(b), MIN(b), MAX(b) DESC, a, COUNT(*), COUNT(b), COUNT(*) DESC, a", "SELECT a, MAX(b) FROM t GROUP BY a ORDER BY MAX(b), MIN(b), a, COUNT(*), COUNT(b)"},
		{"SELECT MAX(b), e FROM t GROUP BY e, a, d, b", "SELECT MAX(b), e FROM t GROUP BY a, b, d, e"},
		{"SELECT e FROM t GROUP BY e ORDER BY e", "SELECT e FROM t GROUP BY e ORDER BY e"},
		{"SELECT COUNT(*) FROM t GROUP BY d, a ORDER BY a", "SELECT COUNT(*) FROM t GROUP BY a, d ORDER BY a"},
		{"SELECT COUNT(*) FROM t ORDER BY SUM(a)", "SELECT COUNT(*) FROM t"},
		{"SELECT SUM(a), COUNT(*), SUM(a) FROM t WHERE d > 1 ORDER BY COUNT(*) DESC, MIN(b) LIMIT 3", "SELECT SUM(a), COUNT(*), SUM(a) FROM t WHERE d >= 2 LIMIT 3"},
	} {
		want := checked(t, c[1])
		for _, s := range c {
			if got := Query(asking(), checked(t, s)); !parse.Same(got, want) || !unplaced(got) {
				t.Errorf("Query of %s: %+v, want %s", s, got, c[1])
			}
		}
	}
}

// P14.1: Compare, by each part, the ones ahead first; places are no part.
func TestCompare(t *testing.T) {
	one, two := api.Value{Kind: api.Int, Num: 1}, api.Value{Kind: api.Int, Num: 2}
	base := api.Pred{Kind: api.PCompare, Column: "b", Rel: api.Lt, Value: one, Other: "b", List: []api.Value{one, one}, Kids: []api.Pred{{Kind: 3}, {Kind: 3}}}
	parts := []func(p *api.Pred, more bool){
		func(p *api.Pred, more bool) { p.Kind = map[bool]int{false: api.PFalse, true: api.PIn}[more] },
		func(p *api.Pred, more bool) { p.Column = map[bool]string{false: "aa", true: "ba"}[more] },
		func(p *api.Pred, more bool) { p.Rel = map[bool]api.Rel{false: api.Ne, true: api.Le}[more] },
		func(p *api.Pred, more bool) {
			p.Value = map[bool]api.Value{false: {}, true: {Kind: api.Text}}[more]
		},
		func(p *api.Pred, more bool) { p.Other = map[bool]string{false: "", true: "c"}[more] },
		func(p *api.Pred, more bool) {
			p.List = map[bool][]api.Value{false: {one}, true: {one, one, {}}}[more]
		},
		func(p *api.Pred, more bool) {
			p.Kids = map[bool][]api.Pred{false: {{Kind: 3}}, true: {{Kind: 3}, {Kind: 3}, {}}}[more]
		},
	}
	for n, first := range parts {
		less, more := base, base
		first(&less, false)
		first(&more, true)
		for _, later := range parts[n+1:] {
			// What comes later doesn't count.
			later(&less, true)
			later(&more, false)
		}
		if Compare(less, base) != -1 || Compare(base, less) != 1 || Compare(base, more) != -1 || Compare(more, base) != 1 || Compare(less, more) != -1 || Compare(less, less) != 0 {
			t.Errorf("Compare, by part %d", n)
		}
	}
	p := base
	p.At = 9
	if Compare(p, base) != 0 || Compare(base, base) != 0 || Compare(api.Pred{}, api.Pred{}) != 0 {
		t.Error("Compare of the same")
	}
	p.List = []api.Value{one, two}
	q := base
	q.List = []api.Value{two}
	if Compare(base, p) != -1 || Compare(p, q) != -1 || Compare(q, base) != 1 {
		t.Error("Compare: lists are in the order of rows")
	}
	kids := func(l ...api.Pred) api.Pred { return api.Pred{Kind: api.PAnd, Kids: l} }
	rising := []api.Pred{
		kids(), kids(api.Pred{}), kids(api.Pred{Kind: 1}), kids(api.Pred{Kind: 1}, api.Pred{Kind: 1}), kids(api.Pred{Kind: 1}, api.Pred{Kind: 2}), kids(api.Pred{Kind: 2}), kids(kids()), kids(kids(), api.Pred{}), kids(kids(api.Pred{Kind: 1}), kids()), kids(kids(api.Pred{Kind: 1}), kids(kids())), kids(kids(api.Pred{Kind: 1}, api.Pred{})), kids(kids(api.Pred{Kind: 2})), kids(api.Pred{Kind: api.PAnd, List: []api.Value{{}}}), kids(api.Pred{Kind: api.POr}),
	}
	for n, p := range rising {
		for m, q := range rising {
			want := 0
			if n < m {
				want = -1
			} else if n > m {
				want = 1
			}
			if got := Compare(p, q); got != want {
				t.Errorf("Compare of Kids, %d and %d: %d", n, m, got)
			}
		}
	}
}
