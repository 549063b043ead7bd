package show

import (
	"math"
	"slices"
	"strings"
	"testing"

	"stillroom/api"
	"stillroom/check"
	"stillroom/norm"
	"stillroom/parse"
)

func column(name string, k api.Kind, null bool) api.Column {
	return api.Column{Name: name, Kind: k, Null: null}
}

// asking: the table that queries ask.
func asking() api.Table {
	return api.Table{Name: "t", Keys: 1, Columns: []api.Column{
		column("a", api.Int, false), column("b", api.Text, true), column("c", api.Bool, true), column("d", api.Int, true), column("e_2", api.Text, false), column("desc", api.Int, true),
	}}
}

func num(n int) api.Value {
	return api.Value{Kind: api.Int, Num: n}
}

func text(s string) api.Value {
	return api.Value{Kind: api.Text, Text: s}
}

// read: a text's query.
func read(t *testing.T, s string) api.Query {
	t.Helper()
	q, at, e := parse.Parse(s)
	if e != api.OK {
		t.Fatalf("Parse(%s): %d at %d", s, e, at)
	}
	return q
}

// formed: a query's normal form.
func formed(t *testing.T, q api.Query) api.Query {
	t.Helper()
	q, at, e := check.Check(q, []api.Table{asking()})
	if e != api.OK {
		t.Fatalf("Check of %+v: %d at %d", q, e, at)
	}
	return norm.Query(asking(), q)
}

// texts: of each two what the first is read as has the second as its text, which is read as the same (P15.1, P15.2).
func texts(t *testing.T, l [][2]string) {
	t.Helper()
	for _, c := range l {
		q := read(t, c[0])
		if got := Query(q); got != c[1] {
			t.Errorf("Query of %s: %s, want %s", c[0], got, c[1])
		}
		if !parse.Same(read(t, c[1]), q) {
			t.Errorf("%s isn't read as %s", c[1], c[0])
		}
	}
}

// where: likewise, of predicates, by Pred too.
func where(t *testing.T, l [][2]string) {
	t.Helper()
	const front = "SELECT a FROM t WHERE "
	for _, c := range l {
		if got := Pred(read(t, front+c[0]).Where); got != c[1] {
			t.Errorf("Pred of %s: %s, want %s", c[0], got, c[1])
		}
		texts(t, [][2]string{{front + c[0], front + c[1]}})
	}
}

// P15.1: the parts of a query, each there and not.
func TestQuery(t *testing.T) {
	texts(t, [][2]string{
		{"SELECT*FROM t", "SELECT * FROM t"},
		{"\tSELECT a\r\nFROM  stock ", "SELECT a FROM stock"},
		{"SELECT a,b ,a FROM t", "SELECT a, b, a FROM t"},
		{"SELECT COUNT(*),COUNT( a ),SUM (b),MIN\n(c),MAX(d),e FROM t", "SELECT COUNT(*), COUNT(a), SUM(b), MIN(c), MAX(d), e FROM t"},
		{"SELECT a FROM t WHERE(a=1)", "SELECT a FROM t WHERE a = 1"},
		{"SELECT a FROM t GROUP BY a", "SELECT a FROM t GROUP BY a"},
		{"SELECT a FROM t GROUP BY a ,b,a", "SELECT a FROM t GROUP BY a, b, a"},
		{"SELECT a FROM t ORDER BY a", "SELECT a FROM t ORDER BY a"},
		{"SELECT a FROM t ORDER BY a ASC,b DESC,c,COUNT ( * ) DESC,COUNT(a),SUM(a)ASC,MIN(b)DESC,MAX(b)", "SELECT a FROM t ORDER BY a, b DESC, c, COUNT(*) DESC, COUNT(a), SUM(a), MIN(b) DESC, MAX(b)"},
		{"SELECT * FROM t LIMIT 0", "SELECT * FROM t LIMIT 0"},
		{"SELECT * FROM t LIMIT 1", "SELECT * FROM t LIMIT 1"},
		{"SELECT * FROM t LIMIT 1000", "SELECT * FROM t LIMIT 1000"},
		{"SELECT*FROM t WHERE 5<a OR TRUE GROUP BY a ORDER BY a DESC LIMIT 7", "SELECT * FROM t WHERE a > 5 OR TRUE GROUP BY a ORDER BY a DESC LIMIT 7"},
		{"SELECT a FROM t WHERE NOT(a=1)GROUP BY b LIMIT 3", "SELECT a FROM t WHERE NOT a = 1 GROUP BY b LIMIT 3"},
		{"SELECT select,from,a_,a1 FROM sum GROUP BY desc ORDER BY asc,desc DESC", "SELECT select, from, a_, a1 FROM sum GROUP BY desc ORDER BY asc, desc DESC"},
		{"SELECT a FROM t WHERE (a>=1 AND b IN('x'))", "SELECT a FROM t WHERE a >= 1 AND b IN ('x')"},
	})
}

// P15.1: predicates without Kids; a comparison of a literal and a column is one of the column.
func TestAlone(t *testing.T) {
	where(t, [][2]string{
		{"TRUE", "TRUE"}, {"FALSE", "FALSE"}, {"(TRUE)", "TRUE"},
		{"a=5", "a = 5"}, {"a<>5", "a <> 5"}, {"a<5", "a < 5"}, {"a<=5", "a <= 5"}, {"a>5", "a > 5"}, {"a>=5", "a >= 5"},
		{"5=a", "a = 5"}, {"5<>a", "a <> 5"}, {"5<a", "a > 5"}, {"5<=a", "a >= 5"}, {"5>a", "a < 5"}, {"5>=a", "a <= 5"},
		{"a=b", "a = b"}, {"b<>a", "b <> a"}, {"a<b", "a < b"}, {"b<=a", "b <= a"}, {"b>a", "b > a"}, {"a>=a", "a >= a"},
		{"5=6", "5 = 6"}, {"6<>5", "6 <> 5"}, {"5<'x'", "5 < 'x'"}, {"NULL<=5", "NULL <= 5"}, {"TRUE>FALSE", "TRUE > FALSE"}, {"FALSE>=NULL", "FALSE >= NULL"},
		{"a IN(1)", "a IN (1)"}, {"a IN ( 2,1 , 2 )", "a IN (2, 1, 2)"}, {"a IN(NULL,TRUE,FALSE,-1,'','x, y')", "a IN (NULL, TRUE, FALSE, -1, '', 'x, y')"}, {"a IN(1,2,3,4,5,6,7,8,9,10,11,12)", "a IN (1, 2, 3, 4, 5, 6, 7, 8, 9, 10, 11, 12)"},
		{"a  IS  NULL", "a IS NULL"}, {"a IS  NOT  NULL", "a IS NOT NULL"},
	})
}

// P15.1: literals by their values' texts, in each place of one.
func TestLiterals(t *testing.T) {
	for want, v := range map[string]api.Value{
		"NULL": {}, "FALSE": {Kind: api.Bool}, "TRUE": {Kind: api.Bool, Num: 1}, "0": num(0), "-7": num(-7),
		"9223372036854775807": num(math.MaxInt), "-9223372036854775808": num(math.MinInt),
		"''": text(""), "'x'": text("x"), "'it''s'": text("it's"), `'\0a\5c\ff\7f ~?'`: text("\n\\\xff\x7f ~?"), "'NULL'": text("NULL"), "'a AND (b)'": text("a AND (b)"), "''''''": text("''"),
		"'" + strings.Repeat(`\e4`, api.MaxText) + "'": text(strings.Repeat("\xe4", api.MaxText)),
	} {
		for form, p := range map[string]api.Pred{
			"a <= ?":          {Kind: api.PCompare, Column: "a", Rel: api.Le, Value: v},
			"? = 6":           {Kind: api.PConst, Value: v, Rel: api.Eq, List: []api.Value{num(6)}},
			"6 > ?":           {Kind: api.PConst, Value: num(6), Rel: api.Gt, List: []api.Value{v}},
			"a IN (?)":        {Kind: api.PIn, Column: "a", List: []api.Value{v}},
			"NOT a IN (1, ?)": {Kind: api.PNot, Kids: []api.Pred{{Kind: api.PIn, Column: "a", List: []api.Value{num(1), v}}}},
		} {
			form = strings.Replace(form, "?", want, 1)
			if got := Pred(p); got != form || !parse.SamePred(read(t, "SELECT a FROM t WHERE "+form).Where, p) {
				t.Errorf("Pred of %+v: %s, want %s", p, got, form)
			}
		}
	}
}

// P15.1: AND, OR and NOT; a Kid's brackets hang on its kind, and on what it is a Kid of.
func TestKids(t *testing.T) {
	where(t, [][2]string{
		{"a=1 AND b=2", "a = 1 AND b = 2"}, {"a=1 AND b=2 AND c=3", "a = 1 AND b = 2 AND c = 3"}, {"a=1 OR b=2", "a = 1 OR b = 2"}, {"a=1 OR b=2 OR c=3", "a = 1 OR b = 2 OR c = 3"},
		{"((a=1)AND(((b=2))))", "a = 1 AND b = 2"}, {"(NOT(a=1))", "NOT a = 1"},
		{"NOT TRUE", "NOT TRUE"}, {"NOT NOT a=1", "NOT NOT a = 1"}, {"NOT(NOT((NOT a IS NULL)))", "NOT NOT NOT a IS NULL"}, {"NOT a IS NOT NULL", "NOT a IS NOT NULL"}, {"NOT 1=TRUE", "NOT 1 = TRUE"},
		{"a NOT IN(1,2)", "NOT a IN (1, 2)"}, {"NOT a IN(1,2)", "NOT a IN (1, 2)"}, {"NOT a NOT IN(1)", "NOT NOT a IN (1)"},
		{"a BETWEEN 1 AND 2", "a >= 1 AND a <= 2"}, {"a NOT BETWEEN 1 AND 2", "NOT (a >= 1 AND a <= 2)"}, {"a BETWEEN 1 AND 2 AND b BETWEEN 3 AND 4", "(a >= 1 AND a <= 2) AND (b >= 3 AND b <= 4)"}, {"a BETWEEN 1 AND 2 OR b=1", "a >= 1 AND a <= 2 OR b = 1"},
		{"NOT(a=1 AND b=2)", "NOT (a = 1 AND b = 2)"}, {"NOT(a=1 OR b=2)", "NOT (a = 1 OR b = 2)"}, {"NOT a=1 AND b=2", "NOT a = 1 AND b = 2"}, {"NOT a=1 OR NOT b=2", "NOT a = 1 OR NOT b = 2"},
		{"(a=1 OR b=2)AND c=3", "(a = 1 OR b = 2) AND c = 3"}, {"c=3 AND(a=1 OR b=2)", "c = 3 AND (a = 1 OR b = 2)"}, {"(a=1 OR b=2)AND(c=3 OR d=4)", "(a = 1 OR b = 2) AND (c = 3 OR d = 4)"},
		{"(a=1 AND b=2)OR c=3", "a = 1 AND b = 2 OR c = 3"}, {"c=3 OR(a=1 AND b=2)", "c = 3 OR a = 1 AND b = 2"}, {"a=1 AND b=2 OR c=3 AND d=4", "a = 1 AND b = 2 OR c = 3 AND d = 4"},
		{"(a=1 AND b=2)AND c=3", "(a = 1 AND b = 2) AND c = 3"}, {"c=3 AND(a=1 AND b=2)", "c = 3 AND (a = 1 AND b = 2)"}, {"(a=1 OR b=2)OR c=3", "(a = 1 OR b = 2) OR c = 3"}, {"c=3 OR(a=1 OR b=2)", "c = 3 OR (a = 1 OR b = 2)"},
		{"a=1 AND(b=2 OR c=3 AND(d=4 OR NOT(a=5 AND b=6)))", "a = 1 AND (b = 2 OR c = 3 AND (d = 4 OR NOT (a = 5 AND b = 6)))"}, {"a=1 OR(b=2 AND(c=3 AND d=4))", "a = 1 OR b = 2 AND (c = 3 AND d = 4)"}, {"NOT((a=1 OR b=2)AND NOT(c=3 OR d=4)AND TRUE)", "NOT ((a = 1 OR b = 2) AND NOT (c = 3 OR d = 4) AND TRUE)"},
		{"TRUE AND FALSE OR TRUE=FALSE", "TRUE AND FALSE OR TRUE = FALSE"},
	})
}

// P15.1: normal forms, as chapter 14 tells them; of those what is left out there isn't told.
func TestForms(t *testing.T) {
	for _, c := range [][2]string{
		{"SELECT * FROM t", "SELECT a, b, c, d, e_2, desc FROM t"},
		{"SELECT a FROM t WHERE TRUE", "SELECT a FROM t"},
		{"SELECT a FROM t WHERE a = 1 AND a = 2", "SELECT a FROM t WHERE FALSE"},
		{"SELECT a FROM t WHERE NOT (a <= 5)", "SELECT a FROM t WHERE a >= 6"},
		{"SELECT a FROM t WHERE b = 'y' OR (a NOT BETWEEN 1 AND 3 AND b IN ('y', NULL, 'x'))", "SELECT a FROM t WHERE b = 'y' OR b IN ('x', 'y') AND (a <= 0 OR a >= 4)"},
		{"SELECT a FROM t WHERE d > a AND c IS NULL AND b IS NOT NULL", "SELECT a FROM t WHERE a < d AND c IS NULL AND b IS NOT NULL"},
		{"SELECT COUNT(*), SUM(a) FROM t ORDER BY MAX(b) DESC LIMIT 5", "SELECT COUNT(*), SUM(a) FROM t LIMIT 5"},
		{"SELECT MIN(b) FROM t GROUP BY d, c ORDER BY c DESC, c, COUNT(d)", "SELECT MIN(b) FROM t GROUP BY c, d ORDER BY c DESC, COUNT(d)"},
	} {
		q := formed(t, read(t, c[0]))
		if got := Query(q); got != c[1] || !parse.Same(read(t, got), q) {
			t.Errorf("Query of the normal form of %s: %s, want %s", c[0], got, c[1])
		}
	}
}

// P15.1: a query that was checked has its * as ahead, whatever its items are.
func TestChecked(t *testing.T) {
	q, _, e := check.Check(read(t, "SELECT * FROM t WHERE a=1"), []api.Table{asking()})
	if got := Query(q); e != api.OK || len(q.Items) != 6 || got != "SELECT * FROM t WHERE a = 1" {
		t.Errorf("Query of a checked one: %s, %d", got, e)
	}
}

// P15.1: a predicate of Kind 0 isn't told.
func TestNone(t *testing.T) {
	if got := Pred(read(t, "SELECT a FROM t").Where); got != "" {
		t.Errorf("Pred of none: %s", got)
	}
}

// P15.1: just a predicate's literals are written as With is told, once each, in the order of the text.
func TestWith(t *testing.T) {
	q := read(t, "SELECT a, COUNT(*) FROM t WHERE TRUE AND a = 5 AND b IN ('x', NULL) AND NOT (TRUE = FALSE OR a < b) AND a IS NULL AND FALSE GROUP BY a LIMIT 7")
	var came []api.Value
	got := With(q, func(v api.Value) string {
		came = append(came, v)
		return strings.Repeat("?", len(came))
	})
	if got != "SELECT a, COUNT(*) FROM t WHERE TRUE AND a = ? AND b IN (??, ???) AND NOT (???? = ????? OR a < b) AND a IS NULL AND FALSE GROUP BY a LIMIT 7" {
		t.Errorf("With: %s", got)
	}
	if want := []api.Value{num(5), text("x"), {}, {Kind: api.Bool, Num: 1}, {Kind: api.Bool}}; !slices.Equal(came, want) {
		t.Errorf("With was asked for %v, want %v", came, want)
	}
}
