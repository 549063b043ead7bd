package exec

import (
	"errors"
	"math"
	"reflect"
	"slices"
	"strings"
	"testing"

	"stillroom/api"
	"stillroom/check"
	"stillroom/norm"
	"stillroom/order"
	"stillroom/parse"
	"stillroom/schema"
	"stillroom/store"
	"stillroom/value"
)

const (
	most  = math.MaxInt
	least = math.MinInt
)

var null api.Value

func num(n int) api.Value { return api.Value{Kind: api.Int, Num: n} }

func text(s string) api.Value { return api.Value{Kind: api.Text, Text: s} }

func truth(n int) api.Value { return api.Value{Kind: api.Bool, Num: n} }

// catalog: a table with a key of one column, and one with a key of two; both have other columns of names that they share.
func catalog() []api.Table {
	return []api.Table{
		{Name: "t", Keys: 1, Columns: []api.Column{{Name: "a", Kind: api.Int}, {Name: "b", Kind: api.Text}}},
		{Name: "u", Keys: 2, Columns: []api.Column{
			{Name: "b", Kind: api.Text}, {Name: "a", Kind: api.Int}, {Name: "c", Kind: api.Int, Null: true}, {Name: "d", Kind: api.Bool, Null: true}, {Name: "e", Kind: api.Text, Null: true},
		}},
	}
}

// wide: the second table, of two columns in its key.
func wide() api.Table { return catalog()[1] }

// some: rows of it, in no order.
func some() []api.Row {
	return []api.Row{
		{text("y"), num(2), num(7), truth(1), text("p")},
		{text("x"), num(3), null, null, text("q")},
		{text("y"), num(1), num(-7), truth(0), text("p")},
		{text("x"), num(1), num(7), truth(1), null},
		{text(""), num(9), num(0), null, text("q")},
		{text("z"), num(1), null, truth(0), null},
	}
}

// filled: a store with rows, those of each table in a commit of their own.
func filled(t *testing.T, small, large []api.Row) *store.Store {
	t.Helper()
	s, e := store.New(catalog())
	if e != api.OK {
		t.Fatalf("New: %d", e)
	}
	commit(t, s, puts("t", small))
	commit(t, s, puts("u", large))
	return s
}

// puts: operations that put rows.
func puts(table string, l []api.Row) []api.Op {
	var out []api.Op
	for _, r := range l {
		out = append(out, api.Op{Kind: api.Put, Table: table, Row: r})
	}
	return out
}

// commit: operations that must be done, as many at once as may be.
func commit(t *testing.T, s *store.Store, l []api.Op) {
	t.Helper()
	for some := range slices.Chunk(l, api.MaxBatch) {
		if _, e := s.Commit(some); e != api.OK {
			t.Fatalf("Commit of %v: %d", some, e)
		}
	}
}

// example: a store with the chapter's rows in t, and some in u.
func example(t *testing.T) *store.Store {
	t.Helper()
	return filled(t, []api.Row{{num(1), text("x")}, {num(2), text("y")}, {num(3), text("x")}}, some())
}

// shown: an answer as a text.
func shown(a api.Answer) string {
	if a.Err != api.OK {
		return "error"
	}
	var out []string
	for _, r := range a.Rows {
		out = append(out, written(r))
	}
	return strings.Join(out, ", ")
}

// written: a row as a text.
func written(r api.Row) string {
	var out []string
	for _, v := range r {
		out = append(out, value.Text(v))
	}
	return strings.Join(out, " ")
}

// normal: a text's normal form, which it must have.
func normal(t *testing.T, s string) api.Query {
	t.Helper()
	q, at, e := Normal(s, catalog())
	if at != 0 || e != api.OK {
		t.Fatalf("Normal of %s: %d, %d", s, at, e)
	}
	return q
}

// answers: what a text must answer, asked at once or by its normal form, and by the bytes of what it answers.
func answers(t *testing.T, p *store.Snapshot, s, want string) {
	t.Helper()
	a, at, e := Ask(p, s)
	if got := shown(a); got != want || at != 0 || e != api.OK {
		t.Errorf("Ask of %s: %s, %d, %d, want %s", s, got, at, e, want)
	}
	if got := Run(p, normal(t, s)); shown(got) != want {
		t.Errorf("Run of %s: %s, want %s", s, shown(got), want)
	}
	if got, e := Read(Payload(a)); shown(got) != want || e != api.OK {
		t.Errorf("of the bytes of the answer of %s is read: %s, %d, want %s", s, shown(got), e, want)
	}
	if a.Err != api.OK && len(a.Rows) > 0 {
		t.Errorf("beside the error of %s stand rows: %v", s, a.Rows)
	}
}

// P19.1: the chapter's example.
func TestExample(t *testing.T) {
	p := example(t).Now()
	answers(t, p, "SELECT b, COUNT(*) FROM t GROUP BY b ORDER BY COUNT(*) DESC LIMIT 1", "'x' 2")
	answers(t, p, "SELECT b, COUNT(*) FROM t GROUP BY b ORDER BY COUNT(*) LIMIT 1", "'y' 1")
	answers(t, p, "SELECT b, COUNT(*) FROM t GROUP BY b ORDER BY COUNT(*) DESC", "'x' 2, 'y' 1")
}

// P19.1: queries that aren't grouped: which rows, which of their values, in which order, how many.
func TestAsk(t *testing.T) {
	p := example(t).Now()
	for s, want := range map[string]string{
		"SELECT * FROM t":                                   "1 'x', 2 'y', 3 'x'",
		"SELECT * FROM u WHERE d = TRUE":                    "'x' 1 7 TRUE NULL, 'y' 2 7 TRUE 'p'",
		"SELECT b, a FROM u":                                "'' 9, 'x' 1, 'x' 3, 'y' 1, 'y' 2, 'z' 1",
		"SELECT a, b, a FROM u WHERE a >= 2":                "9 '' 9, 3 'x' 3, 2 'y' 2",
		"SELECT b FROM u ORDER BY a":                        "'x', 'y', 'z', 'y', 'x', ''",
		"SELECT b FROM u ORDER BY a DESC":                   "'', 'x', 'y', 'x', 'y', 'z'",
		"SELECT b, a FROM u ORDER BY b DESC":                "'z' 1, 'y' 1, 'y' 2, 'x' 1, 'x' 3, '' 9",
		"SELECT b, a FROM u ORDER BY b DESC, a DESC":        "'z' 1, 'y' 2, 'y' 1, 'x' 3, 'x' 1, '' 9",
		"SELECT c, a FROM u ORDER BY c DESC, d, a":          "7 1, 7 2, 0 9, -7 1, NULL 3, NULL 1",
		"SELECT d, b FROM u ORDER BY d, b DESC LIMIT 4":     "NULL 'x', NULL '', FALSE 'z', FALSE 'y'",
		"SELECT e, b, a FROM u ORDER BY e LIMIT 3":          "NULL 'x' 1, NULL 'z' 1, 'p' 'y' 1",
		"SELECT a FROM t WHERE b <> 'x'":                    "2",
		"SELECT a FROM u WHERE c = NULL OR c <> NULL":       "",
		"SELECT a FROM u WHERE c IS NULL":                   "3, 1",
		"SELECT a FROM u WHERE NOT c = 7":                   "9, 1",
		"SELECT b FROM u WHERE a IN (9, 3, NULL)":           "'', 'x'",
		"SELECT b FROM u WHERE FALSE":                       "",
		"SELECT b FROM u LIMIT 0":                           "",
		"SELECT a FROM u ORDER BY a LIMIT 0":                "",
		"SELECT a FROM u ORDER BY a LIMIT 1":                "1",
		"SELECT b FROM u ORDER BY a DESC LIMIT 2":           "'', 'x'",
		"SELECT b FROM u LIMIT 6":                           "'', 'x', 'x', 'y', 'y', 'z'",
		"SELECT b FROM u LIMIT 1000":                        "'', 'x', 'x', 'y', 'y', 'z'",
		"SELECT a FROM t WHERE a > 1 ORDER BY b, a LIMIT 1": "3",
	} {
		answers(t, p, s, want)
	}
}

// P19.1: grouped queries.
func TestAskGroups(t *testing.T) {
	p := example(t).Now()
	for s, want := range map[string]string{
		"SELECT b FROM u GROUP BY b":                                                   "'', 'x', 'y', 'z'",
		"SELECT COUNT(*) FROM u GROUP BY b":                                            "1, 2, 2, 1",
		"SELECT COUNT(*), e FROM u GROUP BY e":                                         "2 NULL, 2 'p', 2 'q'",
		"SELECT e, d, COUNT(c), SUM(c), MIN(c), MAX(c) FROM u GROUP BY d, e":           "'q' NULL 1 0 0 0, NULL FALSE 0 NULL NULL NULL, 'p' FALSE 1 -7 -7 -7, NULL TRUE 1 7 7 7, 'p' TRUE 1 7 7 7",
		"SELECT a FROM u GROUP BY e, a ORDER BY e DESC":                                "3, 9, 1, 2, 1",
		"SELECT a, e FROM u GROUP BY e, a":                                             "1 NULL, 1 'p', 2 'p', 3 'q', 9 'q'",
		"SELECT MIN(b), MAX(d), d FROM u WHERE a < 4 GROUP BY d ORDER BY MAX(b), d":    "'x' NULL NULL, 'x' TRUE TRUE, 'y' FALSE FALSE",
		"SELECT b, SUM(a) FROM u GROUP BY b ORDER BY SUM(a) DESC, MIN(c)":              "'' 9, 'x' 4, 'y' 3, 'z' 1",
		"SELECT b FROM u GROUP BY b ORDER BY COUNT(*) DESC, b DESC":                    "'y', 'x', 'z', ''",
		"SELECT b FROM u GROUP BY b ORDER BY COUNT(*) DESC":                            "'x', 'y', '', 'z'",
		"SELECT b FROM u GROUP BY b ORDER BY COUNT(*) DESC LIMIT 3":                    "'x', 'y', ''",
		"SELECT b FROM u GROUP BY b LIMIT 0":                                           "",
		"SELECT b FROM u WHERE a > 10 GROUP BY b":                                      "",
		"SELECT COUNT(*), COUNT(c), SUM(c), MIN(b), MAX(a) FROM u":                     "6 4 7 '' 9",
		"SELECT COUNT(*), COUNT(c), SUM(c), MIN(b), MAX(a) FROM u WHERE a > 10":        "0 0 NULL NULL NULL",
		"SELECT SUM(c), COUNT(*), SUM(c) FROM u WHERE c IS NULL":                       "NULL 2 NULL",
		"SELECT COUNT(*) FROM u LIMIT 0":                                               "",
		"SELECT COUNT(*) FROM u LIMIT 1":                                               "6",
		"SELECT COUNT(*) FROM u ORDER BY COUNT(*) DESC, MIN(a)":                        "6",
		"SELECT b, a, COUNT(*) FROM u GROUP BY a, b ORDER BY b LIMIT 2":                "'' 9 1, 'x' 1 1",
		"SELECT b, b FROM t GROUP BY b ORDER BY SUM(a) DESC":                           "'x' 'x', 'y' 'y'",
		"SELECT MAX(e), MIN(e), COUNT(e), COUNT(d) FROM u GROUP BY a ORDER BY a":       "'p' 'p' 1 3, 'p' 'p' 1 1, 'q' 'q' 1 0, 'q' 'q' 1 0",
		"SELECT d FROM u WHERE d IS NOT NULL GROUP BY d ORDER BY MIN(a), MAX(a), d":    "FALSE, TRUE",
		"SELECT c, COUNT(*) FROM u GROUP BY c ORDER BY c DESC LIMIT 2":                 "7 2, 0 1",
		"SELECT c FROM u GROUP BY c ORDER BY c":                                        "NULL, -7, 0, 7",
		"SELECT a, MIN(a) FROM t GROUP BY a ORDER BY MIN(b) DESC, MAX(a) DESC LIMIT 2": "2 2, 3 3",
	} {
		answers(t, p, s, want)
	}
}

// P19.1: a sum that is too wide, in any group, of an item or a key, is an error, however few lines are asked for.
func TestOver(t *testing.T) {
	p := filled(t, []api.Row{{num(most), text("x")}, {num(1), text("y")}, {num(2), text("x")}, {num(-2), text("x")}, {num(least), text("z")}}, []api.Row{
		{text("x"), num(1), num(most), null, null}, {text("x"), num(2), num(1), null, null}, {text("y"), num(1), num(5), null, null},
	}).Now()
	for s, want := range map[string]string{
		"SELECT SUM(a) FROM t":                                            "0",
		"SELECT SUM(a) FROM t WHERE b = 'x'":                              "9223372036854775807",
		"SELECT SUM(a) FROM t WHERE a > -1":                               "error",
		"SELECT SUM(a) FROM t WHERE a < 0":                                "error",
		"SELECT SUM(a) FROM t WHERE a > 1":                                "error",
		"SELECT SUM(a), b FROM t GROUP BY b":                              "9223372036854775807 'x', 1 'y', -9223372036854775808 'z'",
		"SELECT SUM(a) FROM t WHERE a <> -2 GROUP BY b":                   "error",
		"SELECT SUM(a) FROM t WHERE a <> -2 AND b <> 'x' GROUP BY b":      "1, -9223372036854775808",
		"SELECT SUM(a) FROM t WHERE a > 1 LIMIT 0":                        "error",
		"SELECT SUM(c) FROM u":                                            "error",
		"SELECT b, SUM(c) FROM u GROUP BY b":                              "error",
		"SELECT b FROM u GROUP BY b ORDER BY SUM(c)":                      "error",
		"SELECT b FROM u GROUP BY b ORDER BY b DESC, SUM(c) DESC LIMIT 1": "error",
		"SELECT b, SUM(c) FROM u GROUP BY b ORDER BY b DESC LIMIT 1":      "error",
		"SELECT b, SUM(c) FROM u GROUP BY b LIMIT 0":                      "error",
		"SELECT b, SUM(c) FROM u WHERE b = 'y' GROUP BY b":                "'y' 5",
		"SELECT a, SUM(c) FROM u GROUP BY a":                              "error",
		"SELECT COUNT(*), COUNT(c), MIN(c), MAX(c) FROM u":                "3 3 1 9223372036854775807",
		// Of one line there is nothing to order.
		"SELECT COUNT(*) FROM u ORDER BY SUM(c)": "3",
		"SELECT MAX(c) FROM u ORDER BY SUM(c)":   "9223372036854775807",
	} {
		answers(t, p, s, want)
	}
}

// P19.1: of no rows.
func TestEmpty(t *testing.T) {
	s, e := store.New(catalog())
	if e != api.OK {
		t.Fatalf("New: %d", e)
	}
	for q, want := range map[string]string{
		"SELECT * FROM t": "", "SELECT b FROM u ORDER BY a LIMIT 3": "", "SELECT COUNT(*), SUM(a), MAX(b) FROM t": "0 NULL NULL", "SELECT b, COUNT(*) FROM u GROUP BY b": "", "SELECT COUNT(e) FROM u WHERE FALSE LIMIT 0": "",
	} {
		answers(t, s.Now(), q, want)
	}
}

// P19.1: a snapshot answers of its own version, whatever is committed.
func TestVersions(t *testing.T) {
	s, e := store.New(catalog())
	if e != api.OK {
		t.Fatalf("New: %d", e)
	}
	old := []*store.Snapshot{s.Now()}
	for n := range 12 {
		commit(t, s, []api.Op{{Kind: api.Put, Table: "t", Row: api.Row{num(n % 7), text(string(rune('a' + n)))}}})
		old = append(old, s.Now())
	}
	commit(t, s, []api.Op{{Kind: api.Delete, Table: "t", Row: api.Row{num(0)}}})
	answers(t, s.Now(), "SELECT COUNT(*), MAX(b), SUM(a) FROM t", "6 'l' 21")
	for n, p := range old {
		at, e := s.At(n)
		if e != api.OK {
			t.Fatalf("At(%d): %d", n, e)
		}
		want := []string{"0 NULL", "1 'a'", "2 'b'", "3 'c'", "4 'd'", "5 'e'", "6 'f'", "7 'g'", "7 'h'", "7 'i'", "7 'j'", "7 'k'", "7 'l'"}[n]
		answers(t, p, "SELECT COUNT(*), MAX(b) FROM t", want)
		answers(t, at, "SELECT COUNT(*), MAX(b) FROM t", want)
	}
	answers(t, old[7], "SELECT b FROM t ORDER BY a LIMIT 2", "'a', 'b'")
	answers(t, old[12], "SELECT b FROM t ORDER BY a LIMIT 2", "'h', 'i'")
}

// P19.1: a query's directions.
func TestFalls(t *testing.T) {
	for s, want := range map[string][]bool{
		"SELECT a FROM t": nil, "SELECT a FROM t ORDER BY a": {false}, "SELECT a FROM t ORDER BY a ASC": {false}, "SELECT a FROM t ORDER BY b DESC": {true},
		"SELECT a FROM u ORDER BY b DESC, c, a ASC, d DESC, e":                      {true, false, false, true, false},
		"SELECT a FROM u ORDER BY b DESC, c, b, c DESC, a DESC":                     {true, false, true},
		"SELECT a FROM u GROUP BY a ORDER BY COUNT(*), SUM(a) DESC, a, MAX(b) DESC": {false, true, false, true},
		"SELECT COUNT(*) FROM u ORDER BY COUNT(*) DESC":                             nil,
	} {
		if got := Falls(normal(t, s)); !slices.Equal(got, want) {
			t.Errorf("Falls of %s: %v, want %v", s, got, want)
		}
	}
}

// lined: the lines of a text for rows of the wide table are these.
func lined(t *testing.T, s string, l []api.Row, want []order.Line) {
	t.Helper()
	got, e := Lines(wide(), normal(t, s), l)
	same := func(a, b order.Line) bool {
		return slices.Equal(a.Keys, b.Keys) && slices.Equal(a.Tie, b.Tie) && slices.Equal(a.Out, b.Out)
	}
	if e != api.OK || !slices.EqualFunc(got, want, same) {
		t.Errorf("Lines of %s: %v, %d, want %v", s, got, e, want)
	}
}

// P19.1: the lines of rows, in the order of rows.
func TestLines(t *testing.T) {
	l := some()
	var all, plain []order.Line
	for _, r := range l {
		all = append(all, order.Line{Keys: api.Row{r[4], r[1]}, Tie: r[:2], Out: api.Row{r[3], r[2], r[3]}})
		plain = append(plain, order.Line{Tie: r[:2], Out: r})
	}
	lined(t, "SELECT d, c, d FROM u ORDER BY e DESC, a", l, all)
	lined(t, "SELECT d, c, d FROM u ORDER BY e DESC, a LIMIT 2", l, all)
	lined(t, "SELECT d, c, d FROM u WHERE c IS NOT NULL AND a < 9 ORDER BY e DESC, a", l, []order.Line{all[0], all[2], all[3]})
	lined(t, "SELECT * FROM u LIMIT 0", l, plain)
	lined(t, "SELECT * FROM u WHERE NOT c = 7", l, []order.Line{plain[2], plain[4]})
	lined(t, "SELECT * FROM u WHERE FALSE", l, nil)
	lined(t, "SELECT * FROM u", nil, nil)
	slices.Reverse(l)
	slices.Reverse(all)
	lined(t, "SELECT d, c, d FROM u ORDER BY e DESC, a", l, all)
	lined(t, "SELECT d, c, d FROM u ORDER BY e DESC, a", []api.Row{l[2], l[2]}, []order.Line{all[2], all[2]})
}

// P19.1: the lines of groups, in the order of groups; columns of a group are in the order of their names.
func TestLinesOfGroups(t *testing.T) {
	line := func(keys, tie, out api.Row) order.Line { return order.Line{Keys: keys, Tie: tie, Out: out} }
	l := some()
	for range l {
		lined(t, "SELECT COUNT(*), b, SUM(c) FROM u GROUP BY b ORDER BY MAX(a) DESC, b LIMIT 1", l, []order.Line{
			line(api.Row{num(9), text("")}, api.Row{text("")}, api.Row{num(1), text(""), num(0)}),
			line(api.Row{num(3), text("x")}, api.Row{text("x")}, api.Row{num(2), text("x"), num(7)}),
			line(api.Row{num(2), text("y")}, api.Row{text("y")}, api.Row{num(2), text("y"), num(0)}),
			line(api.Row{num(1), text("z")}, api.Row{text("z")}, api.Row{num(1), text("z"), null}),
		})
		lined(t, "SELECT d, MIN(c), e FROM u WHERE a < 9 GROUP BY e, d ORDER BY COUNT(d)", l, []order.Line{
			line(api.Row{num(0)}, api.Row{null, text("q")}, api.Row{null, null, text("q")}),
			line(api.Row{num(1)}, api.Row{truth(0), null}, api.Row{truth(0), null, null}),
			line(api.Row{num(1)}, api.Row{truth(0), text("p")}, api.Row{truth(0), num(-7), text("p")}),
			line(api.Row{num(1)}, api.Row{truth(1), null}, api.Row{truth(1), num(7), null}),
			line(api.Row{num(1)}, api.Row{truth(1), text("p")}, api.Row{truth(1), num(7), text("p")}),
		})
		lined(t, "SELECT COUNT(*), MAX(e), COUNT(e) FROM u", l, []order.Line{line(nil, nil, api.Row{num(6), text("q"), num(4)})})
		lined(t, "SELECT COUNT(*), MAX(e) FROM u WHERE a > 9", l, []order.Line{line(nil, nil, api.Row{num(0), null})})
		lined(t, "SELECT b, COUNT(*) FROM u WHERE a > 9 GROUP BY b", l, nil)
		l = append(l[1:], l[0])
	}
	lined(t, "SELECT COUNT(*), MAX(e) FROM u", nil, []order.Line{line(nil, nil, api.Row{num(0), null})})
	lined(t, "SELECT b, COUNT(*) FROM u GROUP BY b", nil, nil)
}

// P19.1, R3: beside an error there are no lines.
func TestLinesOver(t *testing.T) {
	l := append(some(), api.Row{text("y"), num(7), num(most), null, null}, api.Row{text("z"), num(8), num(most), null, null}, api.Row{text("y"), num(8), num(8), null, null})
	for range l {
		for _, s := range []string{
			"SELECT SUM(c) FROM u", "SELECT COUNT(*), SUM(c) FROM u LIMIT 0", "SELECT b, SUM(c) FROM u GROUP BY b", "SELECT b FROM u GROUP BY b ORDER BY b, SUM(c)", "SELECT SUM(c) FROM u WHERE b = 'y' GROUP BY b", "SELECT SUM(c), SUM(a) FROM u WHERE a > 6",
		} {
			if got, e := Lines(wide(), normal(t, s), l); len(got) != 0 || e != api.ErrOver {
				t.Errorf("Lines of %s for %v: %v, %d", s, l, got, e)
			}
		}
		for _, s := range []string{"SELECT SUM(c) FROM u WHERE a < 7", "SELECT SUM(a), COUNT(c), MAX(c) FROM u", "SELECT b, SUM(c) FROM u WHERE b = 'z' GROUP BY b"} {
			if got, e := Lines(wide(), normal(t, s), l); len(got) != 1 || e != api.OK {
				t.Errorf("Lines of %s for %v: %v, %d", s, l, got, e)
			}
		}
		l = append(l[1:], l[0])
	}
}

// A group's error tells which group it is of, and is asked by errors.Is.
func TestFault(t *testing.T) {
	l := []api.Row{{text("it's"), num(1), num(most), null, null}, {text("it's"), num(2), num(1), null, null}}
	_, err := lines(wide(), normal(t, "SELECT SUM(c) FROM u GROUP BY b, d"), l)
	if !errors.Is(err, errWide) || err.Error() != "group ('it''s', NULL): a sum that isn't one of 64 bits" {
		t.Errorf("what is wrong: %v", err)
	}
}

// P19.1: the normal form is that of chapter 14, of the query that was checked.
func TestNormal(t *testing.T) {
	for _, s := range []string{
		"SELECT * FROM t", "SELECT * FROM u WHERE NOT (a <= 5 OR b = 'x') AND d = TRUE ORDER BY b DESC, a, b LIMIT 4", "SELECT b, COUNT(*) FROM u GROUP BY d, b ORDER BY d LIMIT 0", "SELECT COUNT(*) FROM u WHERE TRUE ORDER BY MAX(a)", "SELECT a FROM u WHERE a IS NULL OR c > 7 AND c < 9",
	} {
		q, _, _ := parse.Parse(s)
		q, _, e := check.Check(q, catalog())
		x, f := schema.Find(catalog(), q.Table)
		if e != api.OK || f != api.OK {
			t.Fatalf("%s: %d, %d", s, e, f)
		}
		if got, want := normal(t, s), norm.Query(x, q); !reflect.DeepEqual(got, want) {
			t.Errorf("Normal of %s: %+v, want %+v", s, got, want)
		}
	}
}

// P19.1: each error of a text, with its place, grammar ahead of names and types; R3: nothing beside it.
func TestErrors(t *testing.T) {
	p := example(t).Now()
	for _, c := range []struct {
		text string
		at   int
		want api.Errno
	}{
		{"", 0, api.ErrSyntax}, {"SELECT", 6, api.ErrSyntax}, {"SELECT a FROM t LIMIT x", 22, api.ErrSyntax}, {"SELECT ? FROM t", 7, api.ErrLex}, {"SELECT a FROM t WHERE a = 05", 26, api.ErrLex},
		{"SELECT a FROM t LIMIT 1001", 22, api.ErrRange}, {"SELECT a FROM t WHERE a = 9223372036854775808", 26, api.ErrRange}, {"SELECT a" + strings.Repeat(", a", api.MaxItems) + " FROM t", 7 + 3*api.MaxItems, api.ErrFull},
		{"SELECT a FROM t WHERE " + strings.Repeat("NOT ", api.MaxDeep) + "a = 1", 22 + 4*api.MaxDeep, api.ErrDeep}, {"SELECT a FROM t" + strings.Repeat(" ", api.MaxQuery), api.MaxQuery, api.ErrLong},
		{"SELECT a FROM v", 0, api.ErrTable}, {"SELECT z FROM v WHERE b = 1", 0, api.ErrTable}, {"SELECT c FROM t", 7, api.ErrColumn}, {"SELECT a FROM t WHERE c = 1", 22, api.ErrColumn}, {"SELECT a FROM t ORDER BY a, c", 28, api.ErrColumn},
		{"SELECT a FROM t WHERE a = 1 AND b = 1", 32, api.ErrType}, {"SELECT SUM(b) FROM t", 7, api.ErrType}, {"SELECT a, COUNT(*) FROM t", 7, api.ErrGroup}, {"SELECT * FROM t GROUP BY a", 0, api.ErrGroup}, {"SELECT a FROM t GROUP BY a, a", 28, api.ErrTwice},
		{"SELECT c FROM t LIMIT 1001", 22, api.ErrRange}, {"SELECT z FROM v WHERE", 21, api.ErrSyntax}, {"SELECT b FROM v WHERE a = 'x", 26, api.ErrLex},
	} {
		q, at, e := Normal(c.text, catalog())
		if at != c.at || e != c.want || !reflect.DeepEqual(q, api.Query{}) {
			t.Errorf("Normal of %s: %+v, %d, %d, want %d, %d", c.text, q, at, e, c.at, c.want)
		}
		a, at, e := Ask(p, c.text)
		if at != c.at || e != c.want || a.Err != api.OK || len(a.Rows) > 0 {
			t.Errorf("Ask of %s: %+v, %d, %d, want %d, %d", c.text, a, at, e, c.at, c.want)
		}
	}
	if _, at, e := Normal("SELECT a FROM t", nil); at != 0 || e != api.ErrTable {
		t.Errorf("Normal upon no catalog: %d, %d", at, e)
	}
}

// P19.2: texts of one normal form answer the same, which isn't what others answer.
func TestSameForm(t *testing.T) {
	p := example(t).Now()
	for _, l := range [][]string{
		{"SELECT b, a FROM u WHERE a >= 2", "SELECT b, a FROM u WHERE NOT a <= 1", "SELECT b,a FROM u WHERE(1<a)", "SELECT b, a FROM u WHERE a > 1 AND (TRUE OR c = 3)", "SELECT b, a FROM u WHERE a NOT BETWEEN -9223372036854775808 AND 1"},
		{"SELECT * FROM t", "SELECT a, b FROM t", "SELECT a, b FROM t WHERE a IS NOT NULL", "SELECT * FROM t WHERE 1 < 2"},
		{"SELECT a, e, COUNT(*) FROM u GROUP BY a, e", "SELECT a, e, COUNT(*) FROM u GROUP BY e, a"},
		{"SELECT COUNT(*), MAX(c) FROM u WHERE b IN ('x', 'y')", "SELECT COUNT(*), MAX(c) FROM u WHERE b IN ('y', 'x') ORDER BY MAX(c)", "SELECT COUNT(*), MAX(c) FROM u WHERE b IN ('y', NULL, 'x', 'y')"},
		{"SELECT b FROM u ORDER BY c DESC, a LIMIT 4", "SELECT b FROM u WHERE TRUE ORDER BY c DESC, a ASC, c LIMIT 4", "SELECT b FROM u ORDER BY c DESC, a, a DESC LIMIT 4"},
	} {
		want, _, e := Ask(p, l[0])
		for _, s := range l {
			if q := normal(t, s); !parse.Same(q, normal(t, l[0])) {
				t.Errorf("%s has the normal form %+v", s, q)
			}
			answers(t, p, s, shown(want))
		}
		if e != api.OK || len(want.Rows) == 0 {
			t.Errorf("Ask of %s: %v, %d", l[0], want, e)
		}
	}
}

// P9: of what isn't promised each call ends, and doesn't panic.
func TestOdd(t *testing.T) {
	s, e := store.New(nil)
	if e != api.OK {
		t.Fatalf("New: %d", e)
	}
	odd := []api.Row{nil, {}, {num(1)}, {{Kind: 9, Num: most, Text: "x"}, {Kind: -1}}, {num(most), num(most), num(most), num(most), num(most), num(most)}}
	items := []api.Item{{}, {Column: "a"}, {Column: "z"}, {Agg: 9, Column: "a"}, {Agg: -1}, {Agg: api.Sum, Column: "c"}, {Agg: api.Sum, Column: "b"}, {Agg: api.Rows, Column: "b"}}
	for _, group := range [][]api.Item{nil, items[:3], items} {
		for _, item := range [][]api.Item{nil, items[1:3], items} {
			q := api.Query{Items: item, Group: group, Where: api.Pred{Kind: api.PNot, Kids: []api.Pred{{Kind: 99, Column: "z"}, {}}}, All: true, Limit: least}
			for _, x := range item {
				q.Order = append(q.Order, api.Key{Item: x, Desc: true}, api.Key{Item: x})
			}
			for _, where := range []api.Pred{{}, q.Where, {Kind: api.PAnd}} {
				q.Where = where
				for _, x := range []api.Table{{}, wide(), {Keys: most, Columns: wide().Columns[:2]}, {Keys: -1}} {
					if l, e := Lines(x, q, append(some(), odd...)); e != api.OK && (e != api.ErrOver || len(l) > 0) {
						t.Errorf("Lines: %v, %d", l, e)
					}
				}
				Run(s.Now(), q)
				Run(example(t).Now(), q)
			}
			if got := Falls(q); len(got) != 2*len(item) {
				t.Errorf("Falls: %v", got)
			}
		}
	}
	for _, s := range []string{"\x00", "\xff\xfe", "SELECT \xff FROM t", strings.Repeat("(", 1000), "SELECT a FROM t WHERE " + strings.Repeat("(", 1000), strings.Repeat("SELECT ", 200)} {
		if q, _, e := Normal(s, catalog()); e == api.OK {
			t.Errorf("Normal of %q: %+v", s, q)
		}
	}
}

// P9: long lists of rows.
func TestVast(t *testing.T) {
	const many = 100000
	var l []api.Row
	for n := range many {
		l = append(l, api.Row{text("x"), num(n), num(n % 5), truth(n % 2), text(strings.Repeat("y", n%3))})
	}
	got, e := Lines(wide(), normal(t, "SELECT a FROM u WHERE d = TRUE ORDER BY c DESC LIMIT 3"), l)
	if len(got) != many/2 || e != api.OK || !slices.Equal(got[7].Tie, l[15][:2]) {
		t.Errorf("Lines: %d, %d", len(got), e)
	}
	got, e = Lines(wide(), normal(t, "SELECT SUM(a), e, COUNT(*) FROM u GROUP BY e ORDER BY MAX(c)"), l)
	if len(got) != 3 || e != api.OK || !slices.Equal(got[2].Out, api.Row{num(1666650000), text("yy"), num(33333)}) {
		t.Errorf("Lines: %v, %d", got, e)
	}
	got, e = Lines(wide(), normal(t, "SELECT a FROM u GROUP BY a, b"), l)
	if len(got) != many || e != api.OK {
		t.Errorf("Lines: %d, %d", len(got), e)
	}
	long := api.Answer{Rows: l}
	if a, e := Read(Payload(long)); !like(a, long) || e != api.OK {
		t.Errorf("Read: %d rows, %d", len(a.Rows), e)
	}
}
