package shape

import (
	"math"
	"slices"
	"strings"
	"testing"

	"stillroom/api"
	"stillroom/check"
	"stillroom/norm"
	"stillroom/parse"
	"stillroom/show"
	"stillroom/value"
)

func num(n int) api.Value {
	return api.Value{Kind: api.Int, Num: n}
}

func text(s string) api.Value {
	return api.Value{Kind: api.Text, Text: s}
}

func truth(n int) api.Value {
	return api.Value{Kind: api.Bool, Num: n}
}

// asking: the table that queries ask.
func asking() api.Table {
	return api.Table{Name: "t", Keys: 1, Columns: []api.Column{{Name: "a", Kind: api.Int}, {Name: "b", Kind: api.Text, Null: true}, {Name: "c", Kind: api.Bool, Null: true}, {Name: "d", Kind: api.Int, Null: true}}}
}

// read: a text's query.
func read(t *testing.T, s string) api.Query {
	t.Helper()
	q, at, e := parse.Parse(s)
	if e != api.OK {
		t.Fatalf("Parse(%s): %d at %d", s, e, at)
	}
	return q
}

// formed: a query's normal form.
func formed(t *testing.T, q api.Query) api.Query {
	t.Helper()
	q, at, e := check.Check(q, []api.Table{asking()})
	if e != api.OK {
		t.Fatalf("Check of %+v: %d at %d", q, e, at)
	}
	return norm.Query(asking(), q)
}

// shaped: a query has that shape (P16.1), which is filled to its text (P16.2).
func shaped(t *testing.T, q api.Query, want string, params ...api.Value) {
	t.Helper()
	s := Of(q)
	if s.Text != want || !slices.Equal(s.Params, params) {
		t.Errorf("Of %s: %s, %v, want %s, %v", show.Query(q), s.Text, s.Params, want, params)
	}
	if got, e := Fill(s); e != api.OK || got != show.Query(q) {
		t.Errorf("Fill of %s: %s, %d, want %s", s.Text, got, e, show.Query(q))
	}
}

// P16.1, P16.2: literals of predicates alone are taken out, in the order of the text; the rest stays.
func TestOf(t *testing.T) {
	for _, c := range []struct {
		asked, want string
		params      api.Row
	}{
		{"SELECT a FROM t WHERE a>=5 AND b IN('x','y')", "SELECT a FROM t WHERE a >= ? AND b IN (?, ?)", api.Row{num(5), text("x"), text("y")}},
		{"SELECT*FROM t", "SELECT * FROM t", nil},
		{"SELECT COUNT(*), SUM(a) FROM t GROUP BY b ORDER BY MAX(a) DESC, b LIMIT 7", "SELECT COUNT(*), SUM(a) FROM t GROUP BY b ORDER BY MAX(a) DESC, b LIMIT 7", nil},
		{"SELECT a FROM t WHERE a = 7 LIMIT 7", "SELECT a FROM t WHERE a = ? LIMIT 7", api.Row{num(7)}},
		{"SELECT a FROM t WHERE a = 0 LIMIT 0", "SELECT a FROM t WHERE a = ? LIMIT 0", api.Row{num(0)}},
		{"SELECT a1 FROM t2 WHERE a1 = 1 GROUP BY a1 ORDER BY a1", "SELECT a1 FROM t2 WHERE a1 = ? GROUP BY a1 ORDER BY a1", api.Row{num(1)}},
	} {
		shaped(t, read(t, c.asked), c.want, c.params...)
	}
}

// P16.1, P16.2: predicates of each kind.
func TestOfWhere(t *testing.T) {
	no, yes := truth(0), truth(1)
	for _, c := range []struct {
		asked, want string
		params      api.Row
	}{
		{"TRUE", "TRUE", nil}, {"FALSE", "FALSE", nil}, {"NOT TRUE AND (FALSE OR TRUE)", "NOT TRUE AND (FALSE OR TRUE)", nil},
		{"a < b", "a < b", nil}, {"a IS NULL", "a IS NULL", nil}, {"a IS NOT NULL", "a IS NOT NULL", nil},
		{"a=1", "a = ?", api.Row{num(1)}}, {"a<>-1", "a <> ?", api.Row{num(-1)}}, {"a < 'x'", "a < ?", api.Row{text("x")}}, {"a <= NULL", "a <= ?", api.Row{{}}}, {"a > TRUE", "a > ?", api.Row{yes}}, {"a >= FALSE", "a >= ?", api.Row{no}},
		{"a = 9223372036854775807 OR a = -9223372036854775808", "a = ? OR a = ?", api.Row{num(math.MaxInt), num(math.MinInt)}},
		{"5 < a", "a > ?", api.Row{num(5)}}, {"'x' >= a", "a <= ?", api.Row{text("x")}},
		{"1 = 2", "? = ?", api.Row{num(1), num(2)}}, {"2 > 1", "? > ?", api.Row{num(2), num(1)}}, {"TRUE = NULL", "? = ?", api.Row{yes, {}}}, {"NULL <> FALSE AND TRUE", "? <> ? AND TRUE", api.Row{{}, no}},
		{"a IN (2)", "a IN (?)", api.Row{num(2)}}, {"a IN (2, 1, NULL, 2)", "a IN (?, ?, ?, ?)", api.Row{num(2), num(1), {}, num(2)}}, {"a IN (TRUE, FALSE)", "a IN (?, ?)", api.Row{yes, no}},
		{"a IN (1,2,3,4,5,6,7,8,9,10,11,12)", "a IN (" + strings.Repeat("?, ", 11) + "?)", api.Row{num(1), num(2), num(3), num(4), num(5), num(6), num(7), num(8), num(9), num(10), num(11), num(12)}},
		{"a NOT IN (3, 4)", "NOT a IN (?, ?)", api.Row{num(3), num(4)}}, {"a BETWEEN 3 AND 4", "a >= ? AND a <= ?", api.Row{num(3), num(4)}}, {"a NOT BETWEEN 4 AND 3 AND b = 5", "NOT (a >= ? AND a <= ?) AND b = ?", api.Row{num(4), num(3), num(5)}},
		{"(a = 3 OR a = 1) AND (b = 4 OR NOT (b = 2 AND 9 < 8)) AND a IN (7, 6)", "(a = ? OR a = ?) AND (b = ? OR NOT (b = ? AND ? < ?)) AND a IN (?, ?)", api.Row{num(3), num(1), num(4), num(2), num(9), num(8), num(7), num(6)}},
		{"a = '' OR a = '?' OR a = '''' OR a IN ('= ?, ?)', 'NULL')", "a = ? OR a = ? OR a = ? OR a IN (?, ?)", api.Row{text(""), text("?"), text("'"), text("= ?, ?)"), text("NULL")}},
		{`a = '\00\ff\5c' AND b = '1'`, "a = ? AND b = ?", api.Row{text("\x00\xff\\"), text("1")}},
		{"a = '" + strings.Repeat("?", api.MaxText) + "'", "a = ?", api.Row{text(strings.Repeat("?", api.MaxText))}},
	} {
		shaped(t, read(t, "SELECT a FROM t WHERE "+c.asked), "SELECT a FROM t WHERE "+c.want, c.params...)
	}
}

// P16.1, P16.2: normal forms.
func TestOfForms(t *testing.T) {
	for _, c := range []struct {
		asked, want string
		params      api.Row
	}{
		{"SELECT * FROM t WHERE TRUE", "SELECT a, b, c, d FROM t", nil},
		{"SELECT a FROM t WHERE a = 1 AND a = 2", "SELECT a FROM t WHERE FALSE", nil},
		{"SELECT a FROM t WHERE NOT (a <= 5) LIMIT 3", "SELECT a FROM t WHERE a >= ? LIMIT 3", api.Row{num(6)}},
		{"SELECT a FROM t WHERE b IN ('y', NULL, 'x') AND a NOT BETWEEN 1 AND 3", "SELECT a FROM t WHERE b IN (?, ?) AND (a <= ? OR a >= ?)", api.Row{text("x"), text("y"), num(0), num(4)}},
		{"SELECT a FROM t WHERE c <> FALSE OR d IS NULL OR d > a", "SELECT a FROM t WHERE c = ? OR a < d OR d IS NULL", api.Row{truth(1)}},
	} {
		shaped(t, formed(t, read(t, c.asked)), c.want, c.params...)
	}
}

// P16.1: a text's ? are turned into the params' texts, whatever stands around them; a ? of a param's text stays.
func TestFill(t *testing.T) {
	long := text(strings.Repeat("\xff", api.MaxText))
	for _, c := range []struct {
		text   string
		params api.Row
		want   string
	}{
		{"", nil, ""}, {"", api.Row{}, ""}, {"no mark", nil, "no mark"}, {"?", api.Row{num(5)}, "5"}, {"?", api.Row{{}}, "NULL"}, {"??", api.Row{truth(0), truth(1)}, "FALSETRUE"},
		{"a?b?c", api.Row{num(math.MinInt), num(math.MaxInt)}, "a-9223372036854775808b9223372036854775807c"}, {"? ?x", api.Row{num(1), num(2)}, "1 2x"}, {"x? ?", api.Row{num(1), num(2)}, "x1 2"},
		{"?, ?, ?", api.Row{text("?"), text("it's ?, ?"), num(7)}, "'?', 'it''s ?, ?', 7"}, {"\xff?\xc2?\x00'", api.Row{text(""), text("\n")}, "\xff''\xc2'\\0a'\x00'"}, {"'?'", api.Row{text("x")}, "''x''"},
		{"%s $1 {} \\?", api.Row{num(1)}, "%s $1 {} \\1"}, {"=?", api.Row{long}, "='" + strings.Repeat("\\ff", api.MaxText) + "'"},
		{"SELECT a FROM t WHERE a >= ? AND b IN (?, ?)", api.Row{num(5), text("x"), text("y")}, "SELECT a FROM t WHERE a >= 5 AND b IN ('x', 'y')"},
	} {
		if got, e := Fill(Shape{c.text, c.params}); e != api.OK || got != c.want {
			t.Errorf("Fill of %q, %v: %q, %d, want %q", c.text, c.params, got, e, c.want)
		}
	}
}

// P16.1: too few, too many params are refused.
func TestFillCount(t *testing.T) {
	for marks := range 5 {
		for params := range 5 {
			s := Shape{"x" + strings.Repeat(" ?", marks), slices.Repeat(api.Row{num(3)}, params)}
			want, number := "x"+strings.Repeat(" 3", marks), api.OK
			if marks != params {
				want, number = "", api.ErrForm
			}
			if got, e := Fill(s); got != want || e != number {
				t.Errorf("Fill of %d ? and %d params: %q, %d", marks, params, got, e)
			}
		}
	}
	if got, e := Fill(Shape{"\x3f\xef\xbc\x9f", api.Row{num(1), num(2)}}); got != "" || e != api.ErrForm {
		t.Errorf("Fill of a sign that is like a ?: %q, %d", got, e)
	}
}

// P16.1: a param that isn't good is refused, wherever it is.
func TestFillBad(t *testing.T) {
	for _, v := range []api.Value{{Num: 1}, {Text: "x"}, truth(2), truth(-1), {Kind: api.Bool, Text: "x"}, {Kind: api.Int, Num: 5, Text: "5"}, {Kind: api.Text, Num: 1, Text: "x"}, text(strings.Repeat("x", api.MaxText+1)), {Kind: 4}, {Kind: -1}} {
		if value.Good(v) {
			t.Fatalf("%v is good", v)
		}
		for n := range 3 {
			l := api.Row{num(1), {}, text("x")}
			l[n] = v
			if got, e := Fill(Shape{"? ? ?", l}); got != "" || e != api.ErrForm {
				t.Errorf("Fill with %v: %q, %d", l, got, e)
			}
		}
		if got, e := Fill(Shape{"?", api.Row{v}}); got != "" || e != api.ErrForm {
			t.Errorf("Fill with %v: %q, %d", v, got, e)
		}
	}
}
