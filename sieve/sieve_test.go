package sieve

import (
	"math"
	"runtime/debug"
	"slices"
	"strings"
	"testing"

	"stillroom/api"
	"stillroom/check"
	"stillroom/parse"
)

const (
	no    = api.False
	yes   = api.True
	maybe = api.Unknown
)

func num(n int) api.Value { return api.Value{Kind: api.Int, Num: n} }

func text(s string) api.Value { return api.Value{Kind: api.Text, Text: s} }

func truth(n int) api.Value { return api.Value{Kind: api.Bool, Num: n} }

func null() api.Value { return api.Value{} }

// asking: a table of as many columns as may be, two of each kind that may be null.
func asking() api.Table {
	return api.Table{Name: "t", Keys: 2, Columns: []api.Column{
		{Name: "a", Kind: api.Int}, {Name: "b", Kind: api.Text}, {Name: "c", Kind: api.Bool, Null: true}, {Name: "d", Kind: api.Int, Null: true},
		{Name: "e", Kind: api.Text, Null: true}, {Name: "f", Kind: api.Bool, Null: true}, {Name: "g", Kind: api.Int, Null: true}, {Name: "h", Kind: api.Text, Null: true},
	}}
}

// asked: a row of it, all its values others.
func asked() api.Row {
	return api.Row{num(5), text("x"), truth(1), num(-7), text("it's"), truth(0), num(12), text("")}
}

// bare: a row of it that is null where it may be.
func bare() api.Row {
	return api.Row{num(0), text("y"), {}, {}, {}, {}, {}, {}}
}

// read: the predicate of a text, of a query that was checked.
func read(t *testing.T, s string) api.Pred {
	t.Helper()
	q, at, e := parse.Parse("SELECT a FROM t WHERE " + s)
	if e != api.OK {
		t.Fatalf("Parse of %s: %d at %d", s, e, at)
	}
	q, at, e = check.Check(q, []api.Table{asking()})
	if e != api.OK {
		t.Fatalf("Check of %s: %d at %d", s, e, at)
	}
	return q.Where
}

// tell: the predicate's truth for a row, told alike by each call.
func tell(t *testing.T, s string, p api.Pred, r api.Row, want api.Truth) {
	t.Helper()
	if got := Truth(asking(), p, r); got != want {
		t.Errorf("Truth of %s for %v: %d, want %d", s, r, got, want)
	}
	if got := Passes(asking(), p, r); got != (want == yes) {
		t.Errorf("Passes of %s for %v: %v, of truth %d", s, r, got, want)
	}
	if got := Rows(asking(), p, []api.Row{r, r}); len(got) == 2 != (want == yes) || len(got) != 0 && len(got) != 2 {
		t.Errorf("Rows of %s for %v twice: %v, of truth %d", s, r, got, want)
	}
}

// tells: likewise, of texts, for one row.
func tells(t *testing.T, r api.Row, truths map[string]api.Truth) {
	t.Helper()
	for s, want := range truths {
		tell(t, s, read(t, s), r, want)
	}
}

// P13.1: the chapter's example.
func TestExample(t *testing.T) {
	r := asked()
	r[0] = num(2)
	tells(t, r, map[string]api.Truth{"a IN (1, NULL)": maybe, "a NOT IN (1, NULL)": maybe, "NOT a IN (1, NULL)": maybe, "a IN (1)": no, "a IN (1, NULL, 2)": yes})
}

// P13.1: each kind of predicate, for a row without nulls.
func TestWithout(t *testing.T) {
	tells(t, asked(), map[string]api.Truth{
		"TRUE": yes, "FALSE": no,
		"a = 5": yes, "a <> 5": no, "a < 5": no, "a <= 5": yes, "a > 5": no, "a >= 5": yes, "a < 6": yes, "a <= 4": no, "a > 4": yes, "a >= 6": no, "5 = a": yes, "4 < a": yes, "6 <= a": no,
		"b = 'x'": yes, "b < 'xa'": yes, "b > ''": yes, "b >= 'y'": no, "e = 'it''s'": yes, "h = ''": yes, "h < 'a'": yes, "'x' > b": no,
		"c = TRUE": yes, "c > FALSE": yes, "f < TRUE": yes, "f = TRUE": no, "FALSE <> f": no,
		"a = NULL": maybe, "a <> NULL": maybe, "NULL < b": maybe, "c >= NULL": maybe,
		"a > d": yes, "d > a": no, "a < g": yes, "g <= d": no, "b > h": yes, "b <= e": no, "c <> f": yes, "f >= c": no, "a = a": yes, "a < a": no, "e <> e": no,
		"1 = 1": yes, "2 < 1": no, "'a' < 'b'": yes, "TRUE = FALSE": no, "NULL = NULL": maybe, "1 <> NULL": maybe, "NULL >= 'x'": maybe, "TRUE > FALSE": yes,
		"a IN (5)": yes, "a IN (1, 2, 5)": yes, "a IN (1, 2)": no, "a NOT IN (1, 2)": yes, "a IN (NULL)": maybe, "a NOT IN (NULL, 5)": no, "b IN ('y', 'x', NULL)": yes, "c IN (FALSE)": no,
		"a IS NULL": no, "a IS NOT NULL": yes, "d IS NULL": no, "h IS NOT NULL": yes, "f IS NOT NULL": yes,
		"a BETWEEN 5 AND 5": yes, "a BETWEEN 6 AND 9": no, "a BETWEEN 5 AND NULL": maybe, "a BETWEEN 6 AND NULL": no, "a NOT BETWEEN NULL AND 4": yes, "a NOT BETWEEN 1 AND 9": no,
	})
}

// P13.1: each kind that asks for a column's value, if it is null.
func TestNull(t *testing.T) {
	tells(t, bare(), map[string]api.Truth{
		"d = 5": maybe, "d <> 5": maybe, "d < 5": maybe, "5 <= d": maybe, "e > 'x'": maybe, "c >= TRUE": maybe, "d = NULL": maybe, "h <> NULL": maybe, "g = 0": maybe, "h = ''": maybe, "f = FALSE": maybe,
		"a < d": maybe, "d < a": maybe, "d = g": maybe, "d = d": maybe, "e <> h": maybe, "c = f": maybe, "a = a": yes, "b <> e": maybe,
		"d IN (1, 2)": maybe, "d NOT IN (1, 2)": maybe, "d IN (NULL)": maybe, "e IN ('x', NULL)": maybe, "c IN (TRUE, FALSE)": maybe,
		"c IS NULL": yes, "d IS NULL": yes, "h IS NULL": yes, "e IS NOT NULL": no, "a IS NULL": no, "NOT d IS NULL": no, "NOT d IS NOT NULL": yes,
		"d BETWEEN 1 AND 2": maybe, "d NOT BETWEEN 1 AND 2": maybe,
	})
}

// of: a predicate of one of three truths, of another kind by number.
func of(t *testing.T, a api.Truth, number int) api.Pred {
	l := map[api.Truth][]string{
		no:    {"FALSE", "a = 4", "b IN ('y')", "d IS NULL", "1 > 2"},
		yes:   {"TRUE", "a = 5", "b IN ('x')", "d IS NOT NULL", "a > d"},
		maybe: {"NULL = 1", "a = NULL", "a IN (1, NULL)", "b > NULL", "c <> NULL"},
	}[a]
	return read(t, l[number%len(l)])
}

// joined: what And and Or of the truths are: the least and the greatest of them, Unknown between the others.
func joined(l []api.Truth) (and, or api.Truth) {
	rank := map[api.Truth]int{no: 0, maybe: 1, yes: 2}
	and, or = yes, no
	for _, a := range l {
		if rank[a] < rank[and] {
			and = a
		}
		if rank[a] > rank[or] {
			or = a
		}
	}
	return and, or
}

// P13.1: PAnd, POr and PNot of Kids of all truths, and of those in one another.
func TestJoined(t *testing.T) {
	opposite := map[api.Truth]api.Truth{no: yes, yes: no, maybe: maybe}
	lists := [][]api.Truth{nil}
	for at := 0; len(lists) < 1+3+9+27+81; at++ {
		for _, a := range []api.Truth{no, yes, maybe} {
			lists = append(lists, append(slices.Clone(lists[at]), a))
		}
	}
	for number, l := range lists {
		var kids []api.Pred
		for n, a := range l {
			kids = append(kids, of(t, a, number+n))
		}
		and, or := joined(l)
		all, one := api.Pred{Kind: api.PAnd, Kids: kids}, api.Pred{Kind: api.POr, Kids: kids}
		tell(t, "a PAnd", all, asked(), and)
		tell(t, "a POr", one, asked(), or)
		tell(t, "NOT of a PAnd", api.Pred{Kind: api.PNot, Kids: []api.Pred{all}}, asked(), opposite[and])
		tell(t, "NOT of a POr", api.Pred{Kind: api.PNot, Kids: []api.Pred{one}}, asked(), opposite[or])
		most, _ := joined([]api.Truth{or, opposite[and], and})
		tell(t, "a PAnd of others", api.Pred{Kind: api.PAnd, Kids: []api.Pred{one, {Kind: api.PNot, Kids: []api.Pred{all}}, all}}, asked(), most)
	}
}

// P13.1: words in one another, as they are written.
func TestDeep(t *testing.T) {
	tells(t, asked(), map[string]api.Truth{
		"a = 5 AND b = 'x'": yes, "a = 5 AND b = 'y'": no, "a = 4 OR b = 'x'": yes, "a = 5 AND a = NULL": maybe, "a = 4 AND a = NULL": no, "a = 5 OR a = NULL": yes, "a = 4 OR a = NULL": maybe,
		"NOT (a = 5 AND (b = 'y' OR NOT c = TRUE))": yes, "a = 4 OR a = 5 AND b = 'y'": no, "(a = 4 OR a = 5) AND b = 'x'": yes, "NOT NOT NOT a = 5": no,
		"FALSE OR FALSE OR (TRUE AND TRUE AND NULL = 1)": maybe, "(FALSE OR NULL = 1) AND (FALSE AND TRUE)": no, "NOT (NULL = 1 OR TRUE)": no,
		strings.Repeat("NOT ", api.MaxDeep-1) + "a = 5": no, strings.Repeat("NOT ", api.MaxDeep-1) + "a = NULL": maybe,
	})
}

// P13.1, R7: of none it is True, as the whole and as a Kid.
func TestNone(t *testing.T) {
	none := api.Pred{}
	not := api.Pred{Kind: api.PNot, Kids: []api.Pred{none}}
	for _, r := range []api.Row{asked(), bare()} {
		tell(t, "none", none, r, yes)
		tell(t, "NOT of none", not, r, no)
		tell(t, "NOT NOT of none", api.Pred{Kind: api.PNot, Kids: []api.Pred{not}}, r, yes)
		for s, want := range map[string][2]api.Truth{"TRUE": {yes, yes}, "FALSE": {no, yes}, "a = NULL": {maybe, yes}} {
			p := read(t, s)
			for _, kids := range [][]api.Pred{{none, p}, {p, none}, {none, p, none}} {
				tell(t, "a PAnd of none and "+s, api.Pred{Kind: api.PAnd, Kids: kids}, r, want[0])
				tell(t, "a POr of none or "+s, api.Pred{Kind: api.POr, Kids: kids}, r, want[1])
			}
		}
		tell(t, "none, of which fields tell something", api.Pred{Column: "a", Rel: api.Eq, Value: num(77), At: 9}, r, yes)
	}
}

// P13.1: values at the edges of their kinds.
func TestEdges(t *testing.T) {
	long := strings.Repeat("\xff", api.MaxText)
	r := api.Row{num(math.MaxInt), text(long), truth(0), num(math.MinInt), text("a\x00"), truth(1), num(-1), text("a")}
	for _, c := range []struct {
		column string
		rel    api.Rel
		v      api.Value
		want   api.Truth
	}{
		{"a", api.Eq, num(math.MaxInt), yes}, {"a", api.Gt, num(math.MinInt), yes}, {"a", api.Le, num(math.MaxInt - 1), no}, {"d", api.Lt, num(math.MaxInt), yes}, {"d", api.Eq, num(math.MinInt), yes}, {"d", api.Ge, num(math.MinInt + 1), no},
		{"b", api.Eq, text(long), yes}, {"b", api.Gt, text(long[1:]), yes}, {"b", api.Gt, text("é"), yes}, {"e", api.Gt, text("a"), yes}, {"e", api.Lt, text("a\x00\x00"), yes}, {"h", api.Eq, text("a\x00"), no}, {"h", api.Gt, text("A"), yes},
		{"g", api.Lt, num(0), yes}, {"f", api.Eq, truth(1), yes}, {"c", api.Lt, truth(1), yes}, {"c", api.Ne, truth(0), no},
	} {
		tell(t, c.column, api.Pred{Kind: api.PCompare, Column: c.column, Rel: c.rel, Value: c.v}, r, c.want)
	}
	tells(t, r, map[string]api.Truth{"a > d": yes, "e > h": yes, "b > e": yes, "d > g": no, "c < f": yes})
	var l []api.Value
	for n := range api.MaxList {
		l = append(l, num(n-api.MaxList))
	}
	for at := range l {
		was := l[at]
		l[at] = num(math.MinInt)
		tell(t, "IN, at any place", api.Pred{Kind: api.PIn, Column: "d", List: l}, r, yes)
		tell(t, "IN, at none", api.Pred{Kind: api.PIn, Column: "a", List: l}, r, no)
		l[at] = null()
		tell(t, "IN, null at any place", api.Pred{Kind: api.PIn, Column: "a", List: l}, r, maybe)
		l[at] = was
	}
}

// P13.1: those of a list that pass, in order, as often as they stand there.
func TestRows(t *testing.T) {
	row := func(a int, d api.Value) api.Row {
		r := asked()
		r[0], r[3] = num(a), d
		return r
	}
	l := []api.Row{row(9, num(1)), row(3, null()), row(4, num(1)), row(9, num(1)), row(1, num(2)), row(2, num(1)), row(9, null())}
	for s, want := range map[string][]int{
		"TRUE": {0, 1, 2, 3, 4, 5, 6}, "FALSE": {}, "d = 1": {0, 2, 3, 5}, "NOT d = 1": {4}, "d IS NULL": {1, 6}, "d = NULL": {}, "a = 9": {0, 3, 6}, "a > d AND a < 9": {2, 5}, "a <= 1 OR d IS NULL": {1, 4, 6},
	} {
		var rows []api.Row
		for _, n := range want {
			rows = append(rows, l[n])
		}
		if got := Rows(asking(), read(t, s), l); !slices.EqualFunc(got, rows, slices.Equal) {
			t.Errorf("Rows of %s: %v, want %v", s, got, rows)
		}
	}
	if got := Rows(asking(), api.Pred{}, l); !slices.EqualFunc(got, l, slices.Equal) {
		t.Errorf("Rows of none: %v", got)
	}
	if got := Rows(asking(), read(t, "TRUE"), nil); len(got) != 0 {
		t.Errorf("Rows of no list: %v", got)
	}
}

// P13.1: a row's values, in the items' order, a column as often as it stands there.
func TestTake(t *testing.T) {
	names := []string{"a", "b", "c", "d", "e", "f", "g", "h"}
	for step := 1; step < len(names); step += 2 {
		for start := range names {
			var l []api.Item
			var want, empty api.Row
			for n := range names {
				at := (start + step*n) % len(names)
				l, want, empty = append(l, api.Item{Column: names[at], At: n}), append(want, asked()[at]), append(empty, bare()[at])
			}
			if got := Take(asking(), l, asked()); !slices.Equal(got, want) {
				t.Errorf("Take of %v: %v, want %v", l, got, want)
			}
			if got := Take(asking(), l[:3], bare()); !slices.Equal(got, empty[:3]) {
				t.Errorf("Take of %v: %v, want %v", l[:3], got, empty[:3])
			}
		}
	}
	if got := Take(asking(), []api.Item{{Column: "d"}, {Column: "d"}, {Column: "a"}, {Column: "d"}}, asked()); !slices.Equal(got, api.Row{num(-7), num(-7), num(5), num(-7)}) {
		t.Errorf("Take of one column more than once: %v", got)
	}
	if got := Take(asking(), nil, asked()); len(got) != 0 {
		t.Errorf("Take of no items: %v", got)
	}
	if got := Take(asking(), []api.Item{{Agg: api.Rows}, {Column: "g"}, {Agg: api.Max, Column: "a"}}, asked()); !slices.Equal(got, api.Row{num(12)}) {
		t.Errorf("Take of an item between aggregates: %v", got)
	}
}

// P13.1: which column is meant hangs on its name in the table that is handed in, not on its place in another.
func TestTable(t *testing.T) {
	turned := asking()
	slices.Reverse(turned.Columns)
	r := asked()
	slices.Reverse(r)
	for s, want := range map[string]api.Truth{"a = 5": yes, "g = 12": yes, "d IN (-7)": yes, "h = 'x'": no, "a > d": yes, "c IS NULL": no} {
		if got := Truth(turned, read(t, s), r); got != want {
			t.Errorf("Truth of %s: %d, want %d", s, got, want)
		}
	}
	if got := Take(turned, []api.Item{{Column: "a"}, {Column: "h"}, {Column: "b"}}, r); !slices.Equal(got, api.Row{num(5), text(""), text("x")}) {
		t.Errorf("Take: %v", got)
	}
	one := api.Table{Name: "u", Keys: 1, Columns: []api.Column{{Name: "b", Kind: api.Int}}}
	if got := Rows(one, api.Pred{Kind: api.PCompare, Column: "b", Rel: api.Gt, Value: num(1)}, []api.Row{{num(1)}, {num(2)}}); len(got) != 1 || !slices.Equal(got[0], api.Row{num(2)}) {
		t.Errorf("Rows of another table: %v", got)
	}
}

// P9, R7: Kids of any depth, and any number of them.
func TestVast(t *testing.T) {
	defer debug.SetMaxStack(debug.SetMaxStack(1 << 24))
	const many = 300000
	for _, c := range []struct {
		kind, number int
		inner, want  api.Truth
	}{
		{api.PNot, many, yes, yes}, {api.PNot, many + 1, yes, no}, {api.PNot, many, maybe, maybe}, {api.PNot, many + 1, no, yes},
		{api.PAnd, many, yes, yes}, {api.PAnd, many, maybe, maybe}, {api.POr, many, no, no}, {api.POr, many, yes, yes},
	} {
		p := of(t, c.inner, 1)
		for range c.number {
			p = api.Pred{Kind: c.kind, Kids: []api.Pred{p}}
		}
		tell(t, "a deep one", p, asked(), c.want)
	}
	// Beside each deeper one stands another, ahead of it and behind it by turns.
	and, or := of(t, maybe, 1), of(t, maybe, 2)
	for n := range many {
		l, m := []api.Pred{and, {Kind: api.PTrue}}, []api.Pred{{Kind: api.PFalse}, or}
		if n%2 == 0 {
			slices.Reverse(l)
			slices.Reverse(m)
		}
		and, or = api.Pred{Kind: api.PAnd, Kids: l}, api.Pred{Kind: api.POr, Kids: m}
	}
	tell(t, "a deep AND", and, asked(), maybe)
	tell(t, "a deep OR", or, asked(), maybe)
	kids := slices.Repeat([]api.Pred{of(t, yes, 1)}, many)
	tell(t, "a wide AND", api.Pred{Kind: api.PAnd, Kids: kids}, asked(), yes)
	kids[many/2] = of(t, no, 1)
	tell(t, "a wide AND", api.Pred{Kind: api.PAnd, Kids: kids}, asked(), no)
	tell(t, "a wide OR", api.Pred{Kind: api.POr, Kids: kids}, asked(), yes)
	if got := Rows(asking(), read(t, "a = 5"), slices.Repeat([]api.Row{asked(), bare()}, many)); len(got) != many {
		t.Errorf("Rows of a long list: %d", len(got))
	}
}

// odd: predicates that no text has.
func odd() []api.Pred {
	var l []api.Pred
	for _, k := range []int{math.MinInt, -1, 0, 1, 2, 3, 4, 5, 6, 7, 8, 9, 10, 11, 12, 99, math.MaxInt} {
		for _, name := range []string{"a", "h", "z", ""} {
			l = append(l, api.Pred{Kind: k, Column: name}, api.Pred{Kind: k, Column: name, Other: "z", Rel: -1}, api.Pred{Kind: k, Column: name, Other: "a", Rel: api.Lt, Value: text("x"), List: []api.Value{{}, num(1), text("y")}})
		}
	}
	for _, p := range slices.Clone(l) {
		for _, k := range []int{api.PAnd, api.POr, api.PNot, api.PTrue, api.PCompare, 12} {
			l = append(l, api.Pred{Kind: k, Rel: api.Eq, Kids: []api.Pred{p, {Kind: api.PTrue}, p}}, api.Pred{Kind: k, Rel: 7, Kids: []api.Pred{p}})
		}
	}
	return l
}

// P9: of what isn't promised each call ends, and doesn't panic; Truth answers one.
func TestOdd(t *testing.T) {
	twice := asking()
	twice.Columns[7].Name = "a"
	items := []api.Item{{Column: "a"}, {Column: "z"}, {Column: ""}, {Agg: 9, Column: "a"}, {Agg: api.Rows}}
	for _, x := range []api.Table{asking(), {}, {Columns: []api.Column{{}, {Name: "h", Kind: 9}}}, twice} {
		for _, r := range []api.Row{asked(), nil, {}, {num(1)}, append(asked(), asked()...), {{Kind: 9, Num: 3, Text: "x"}, {Kind: -1}}} {
			for _, p := range odd() {
				got := Truth(x, p, r)
				if got != no && got != yes && got != maybe {
					t.Fatalf("Truth of %+v: %d", p, got)
				}
				if Passes(x, p, r) != (got == yes) || len(Rows(x, p, []api.Row{r, nil})) > 2 {
					t.Fatalf("Passes and Rows of %+v, whose truth is %d", p, got)
				}
			}
			Take(x, items, r)
		}
	}
	if got := Take(twice, items[:3], asked()); !slices.Equal(got, api.Row{num(5), {}, {}}) {
		t.Errorf("Take of a name that two columns have, and of two that none has: %v", got)
	}
}
