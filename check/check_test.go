package check

import (
	"errors"
	"reflect"
	"slices"
	"strings"
	"testing"

	"stillroom/api"
	"stillroom/parse"
)

func column(name string, k api.Kind, null bool) api.Column {
	return api.Column{Name: name, Kind: k, Null: null}
}

// asking: the table that queries ask: a (Int) and b (Text) as in the chapter's examples, and more of each kind.
func asking() api.Table {
	return api.Table{Name: "t", Keys: 1, Columns: []api.Column{
		column("a", api.Int, false), column("b", api.Text, false), column("c", api.Bool, true),
		column("d", api.Int, true), column("e", api.Text, true), column("f", api.Bool, false),
	}}
}

// catalog: the table that is asked behind one that has a column of another kind, and one more.
func catalog() []api.Table {
	return []api.Table{{Name: "u", Keys: 1, Columns: []api.Column{column("z", api.Int, false), column("b", api.Int, true)}}, asking()}
}

// kinds: of the columns that are asked.
func kinds() map[string]api.Kind {
	return map[string]api.Kind{"a": api.Int, "b": api.Text, "c": api.Bool, "d": api.Int, "e": api.Text, "f": api.Bool}
}

// literal: one of each kind.
func literal() map[api.Kind]string {
	return map[api.Kind]string{api.Null: "NULL", api.Bool: "TRUE", api.Int: "5", api.Text: "'x'"}
}

// signs: of all comparisons.
func signs() []string {
	return []string{"=", "<>", "<", "<=", ">", ">="}
}

func read(t *testing.T, text string) api.Query {
	t.Helper()
	q, at, e := parse.Parse(text)
	if e != api.OK {
		t.Fatalf("Parse(%s): %d at %d", text, e, at)
	}
	return q
}

// right: the query is; the answer is as it was, but that All is told by items.
func right(t *testing.T, text string) {
	t.Helper()
	want := read(t, text)
	if want.All {
		for _, name := range []string{"a", "b", "c", "d", "e", "f"} {
			want.Items = append(want.Items, api.Item{Column: name})
		}
	}
	if got, at, e := Check(read(t, text), catalog()); at != 0 || e != api.OK || !same(got, want) {
		t.Errorf("Check(%s): %+v, %d, %d", text, got, at, e)
	}
}

// same: are they, places too? A list that is empty may be nil.
func same(a, b api.Query) bool {
	return a.All == b.All && a.Table == b.Table && a.Limit == b.Limit && a.At == b.At &&
		slices.Equal(a.Items, b.Items) && slices.Equal(a.Group, b.Group) && slices.Equal(a.Order, b.Order) &&
		samePred(a.Where, b.Where)
}

func samePred(a, b api.Pred) bool {
	return a.Kind == b.Kind && a.Column == b.Column && a.Rel == b.Rel && a.Value == b.Value && a.Other == b.Other && a.At == b.At &&
		slices.Equal(a.List, b.List) && slices.EqualFunc(a.Kids, b.Kids, samePred)
}

// unmarked: a text without its ^, and the place of that; 0, if there is none.
func unmarked(marked string) (string, int) {
	return strings.Replace(marked, "^", "", 1), max(0, strings.Index(marked, "^"))
}

// wrong: the query is refused, at the place that ^ marks.
func wrong(t *testing.T, marked string, want api.Errno) {
	t.Helper()
	text, place := unmarked(marked)
	if got, at, e := Check(read(t, text), catalog()); at != place || e != want || !reflect.DeepEqual(got, api.Query{}) {
		t.Errorf("Check(%s): %+v, %d, %d, want %d, %d", text, got, at, e, place, want)
	}
}

// P12.1: the chapter's examples.
func TestExamples(t *testing.T) {
	wrong(t, "SELECT a FROM t WHERE ^b < 5", api.ErrType)
	wrong(t, "SELECT ^a, COUNT(*) FROM t", api.ErrGroup)
	wrong(t, "SELECT ^SUM(b) FROM t", api.ErrType)
}

// P12.1: queries that are right.
func TestRight(t *testing.T) {
	for _, s := range []string{
		"SELECT * FROM t", "SELECT a FROM t", "SELECT a, a, b FROM t LIMIT 0", "SELECT b FROM t ORDER BY a, d DESC LIMIT 1000",
		"SELECT * FROM t WHERE TRUE AND NOT FALSE ORDER BY f, f", "SELECT COUNT(*) FROM t", "SELECT COUNT(*), COUNT(b), SUM(a), MIN(b), MAX(c) FROM t",
		"SELECT a FROM t GROUP BY a", "SELECT a, b FROM t GROUP BY b, a, c", "SELECT a, a, SUM(d) FROM t GROUP BY a ORDER BY a, a DESC, MAX(e)",
		"SELECT COUNT(*) FROM t GROUP BY c ORDER BY c, COUNT(d)", "SELECT COUNT(*) FROM t ORDER BY COUNT(*), SUM(a)", "SELECT SUM(a) FROM t GROUP BY b ORDER BY b",
		"SELECT a FROM t WHERE a = 1 AND (b < 'x' OR NOT c IS NULL) AND d IN (1, NULL) AND e NOT BETWEEN 'a' AND NULL AND 1 = NULL AND a <> d AND c = f",
		"SELECT MAX(b) FROM t WHERE NULL = NULL OR NULL <> a OR 'x' = b OR f IS NOT NULL", "SELECT a FROM t WHERE a = a AND b IN (NULL, NULL)",
		"SELECT a, b, c, d, e, f, a, b FROM t GROUP BY a, b, c, d, e, f ORDER BY a, b, c, d, e, f, MIN(a), MAX(a)",
	} {
		right(t, s)
	}
}

// P12.1: a query that was checked has for All the table's columns, at the query's place.
func TestAll(t *testing.T) {
	q := read(t, "SELECT * FROM u WHERE z = 1 LIMIT 3")
	q.At = 7
	want := []api.Item{{Column: "z", At: 7}, {Column: "b", At: 7}}
	for range 2 {
		got, at, e := Check(q, catalog())
		if at != 0 || e != api.OK || !got.All || got.At != 7 || !slices.Equal(got.Items, want) || !samePred(got.Where, q.Where) || got.Limit != 3 {
			t.Errorf("Check: %+v, %d, %d", got, at, e)
		}
		q = got
	}
	wide := api.Table{Name: "t", Keys: 1}
	for n := range api.MaxColumns {
		wide.Columns = append(wide.Columns, column(strings.Repeat("a", n+1), api.Int, n > 0))
		got, _, e := Check(read(t, "SELECT * FROM t"), []api.Table{wide})
		if e != api.OK || len(got.Items) != n+1 || got.Items[n].Column != wide.Columns[n].Name {
			t.Errorf("Check of %d columns: %+v, %d", n+1, got, e)
		}
	}
}

// P12.1: a table that is none of the catalog's, whatever else is wrong.
func TestTable(t *testing.T) {
	for _, s := range []string{"SELECT * FROM v", "SELECT z FROM tt", "SELECT a, SUM(b) FROM t_ WHERE a = 'x' GROUP BY a, a ORDER BY z"} {
		wrong(t, s, api.ErrTable)
		for _, none := range [][]api.Table{nil, {}, {{Name: "w", Keys: 1, Columns: asking().Columns}}} {
			if q, at, e := Check(read(t, s), none); at != 0 || e != api.ErrTable || !reflect.DeepEqual(q, api.Query{}) {
				t.Errorf("Check(%s) upon %v: %+v, %d, %d", s, none, q, at, e)
			}
		}
	}
	wrong(t, "SELECT ^a FROM u", api.ErrColumn)
}

// P12.1: columns that aren't there, at the item, or predicate.
func TestNoColumn(t *testing.T) {
	for _, s := range []string{
		"SELECT ^z FROM t", "SELECT a, b, ^t FROM t", "SELECT a, ^COUNT(z) FROM t", "SELECT ^MIN(z), MAX(y) FROM t", "SELECT SUM(a), ^SUM(z) FROM t", "SELECT ^aa FROM t",
		"SELECT * FROM t WHERE ^z = 1", "SELECT * FROM t WHERE ^1 = z", "SELECT * FROM t WHERE ^NULL < z", "SELECT * FROM t WHERE ^z <> a", "SELECT * FROM t WHERE ^a <> z",
		"SELECT * FROM t WHERE ^z = y", "SELECT * FROM t WHERE ^z IN (1, 'x')", "SELECT * FROM t WHERE NOT ^z IS NULL", "SELECT * FROM t WHERE (^z IS NOT NULL)",
		"SELECT * FROM t WHERE ^z NOT IN (NULL)", "SELECT * FROM t WHERE ^z BETWEEN 1 AND 2", "SELECT * FROM t WHERE ^z NOT BETWEEN 1 AND 2",
		"SELECT * FROM t WHERE a = 1 AND (b = 'x' OR NOT (c IS NULL OR ^z = 3)) AND y = 2",
		"SELECT a FROM t GROUP BY ^z", "SELECT a FROM t GROUP BY a, ^z, z", "SELECT a FROM t ORDER BY ^z", "SELECT a FROM t ORDER BY a, ^MAX(z) DESC", "SELECT a FROM t ORDER BY a DESC, ^COUNT(z)",
	} {
		wrong(t, s, api.ErrColumn)
	}
}

// P12.1: an item's type, or a key's: a SUM's column is an Int, others' are of any kind.
func TestItems(t *testing.T) {
	for name, k := range kinds() {
		for _, agg := range []string{"COUNT", "MIN", "MAX"} {
			right(t, "SELECT "+agg+"("+name+") FROM t ORDER BY "+agg+"("+name+")")
		}
		if k == api.Int {
			right(t, "SELECT SUM("+name+") FROM t ORDER BY SUM("+name+")")
			continue
		}
		wrong(t, "SELECT COUNT(*), ^SUM("+name+") FROM t", api.ErrType)
		wrong(t, "SELECT COUNT(*) FROM t ORDER BY COUNT(*), ^SUM("+name+") DESC", api.ErrType)
	}
}

// judged: the query is right just if the kinds are one, but for nulls.
func judged(t *testing.T, marked string, l ...api.Kind) {
	t.Helper()
	found := map[api.Kind]int{}
	for _, k := range l {
		found[k]++
	}
	delete(found, api.Null)
	if len(found) < 2 {
		text, _ := unmarked(marked)
		right(t, text)
	} else {
		wrong(t, marked, api.ErrType)
	}
}

// P12.1: the types of comparisons, of each two kinds.
func TestCompared(t *testing.T) {
	const front = "SELECT a FROM t WHERE TRUE AND ^"
	for _, sign := range signs() {
		for name, k := range kinds() {
			for m, s := range literal() {
				judged(t, front+name+sign+s, k, m)
				judged(t, front+s+sign+name, k, m)
			}
			for other, m := range kinds() {
				judged(t, front+name+sign+other, k, m)
			}
		}
		for k, s := range literal() {
			for m, r := range literal() {
				judged(t, front+s+sign+r, k, m)
			}
		}
	}
}

// P12.1: the types of IN, at each place of its list, and of BETWEEN; IS NULL has none.
func TestAmong(t *testing.T) {
	for name, k := range kinds() {
		right(t, "SELECT a FROM t WHERE "+name+" IS NULL OR "+name+" IS NOT NULL")
		for m, s := range literal() {
			l := strings.Split(strings.Repeat(literal()[k]+" NULL ", api.MaxList/2), " ")[:api.MaxList]
			for n := range l {
				was := l[n]
				l[n] = s
				judged(t, "SELECT a FROM t WHERE ^"+name+" IN ("+strings.Join(l, ", ")+")", k, m)
				judged(t, "SELECT a FROM t WHERE NOT ^"+name+" NOT IN ("+strings.Join(l[:n+1], ", ")+")", k, m)
				l[n] = was
			}
			for n, r := range literal() {
				judged(t, "SELECT a FROM t WHERE ^"+name+" BETWEEN "+s+" AND "+r+" OR FALSE", k, m, n)
				judged(t, "SELECT a FROM t WHERE NOT (^"+name+" NOT BETWEEN "+s+" AND "+r+")", k, m, n)
			}
		}
	}
}

// P12.1: a name of GROUP BY that is there twice, after its column.
func TestTwice(t *testing.T) {
	wrong(t, "SELECT a FROM t GROUP BY a, ^a", api.ErrTwice)
	wrong(t, "SELECT a FROM t GROUP BY a, b, ^a, b", api.ErrTwice)
	wrong(t, "SELECT a FROM t GROUP BY a, b, c, d, e, ^e, z", api.ErrTwice)
	wrong(t, "SELECT COUNT(*) FROM t GROUP BY ^z, z", api.ErrColumn)
	wrong(t, "SELECT COUNT(*) FROM t GROUP BY a, ^z, a", api.ErrColumn)
	wrong(t, "SELECT * FROM t GROUP BY a, ^a ORDER BY z", api.ErrTwice)
}

// P12.1: what is neither grouped nor an aggregate.
func TestGroup(t *testing.T) {
	for _, s := range []string{
		"SELECT ^a, COUNT(*) FROM t", "SELECT COUNT(*), ^a FROM t", "SELECT ^a FROM t ORDER BY COUNT(*)", "SELECT ^a, b FROM t ORDER BY c, MIN(a)", "SELECT COUNT(*) FROM t ORDER BY ^a",
		"SELECT SUM(a), MIN(b) FROM t ORDER BY SUM(a), ^a, b", "SELECT ^b FROM t GROUP BY a", "SELECT a, MAX(b), ^b FROM t GROUP BY a, c", "SELECT a FROM t GROUP BY a ORDER BY a, ^b DESC, c",
		"SELECT b, ^a FROM t GROUP BY b ORDER BY c", "SELECT * FROM t GROUP BY a", "SELECT * FROM t GROUP BY a, b, c, d, e, f", "SELECT * FROM t ORDER BY COUNT(*)", "SELECT * FROM t ORDER BY a, SUM(d) DESC",
		"SELECT * FROM t GROUP BY a ORDER BY b",
	} {
		wrong(t, s, api.ErrGroup)
	}
}

// part: one of a query, and what is wrong with it.
type part struct {
	text string
	e    api.Errno
}

// parts: of each place of a query one that is right, and two that aren't.
func parts() [][3]part {
	return [][3]part{
		{{"a", api.OK}, {"z", api.ErrColumn}, {"SUM(b)", api.ErrType}},
		{{"b", api.OK}, {"MIN(z)", api.ErrColumn}, {"SUM(c)", api.ErrType}},
		{{"TRUE", api.OK}, {"z = 1", api.ErrColumn}, {"a = 'x'", api.ErrType}},
		{{"TRUE", api.OK}, {"a < z", api.ErrColumn}, {"c IN (TRUE, 1)", api.ErrType}},
		{{"a", api.OK}, {"z", api.ErrColumn}, {"y", api.ErrColumn}},
		{{"b", api.OK}, {"z", api.ErrColumn}, {"a", api.ErrTwice}},
		{{"a", api.OK}, {"z", api.ErrColumn}, {"SUM(e)", api.ErrType}},
		{{"b", api.OK}, {"COUNT(z)", api.ErrColumn}, {"SUM(f)", api.ErrType}},
	}
}

// chosen: the texts of parts, by a number, with a ^ ahead of the first that is wrong; what is wrong.
func chosen(code int) ([]string, api.Errno) {
	var out []string
	e := api.OK
	for _, l := range parts() {
		p := l[code%3]
		code /= 3
		if p.e != api.OK && e == api.OK {
			e = p.e
			p.text = "^" + p.text
		}
		out = append(out, p.text)
	}
	return out, e
}

// P12.1: of things that are wrong at any places at once the first is told; that there is no table ahead of all, that an item isn't grouped behind all.
func TestFirst(t *testing.T) {
	for code := range 3 * 3 * 3 * 3 * 3 * 3 * 3 * 3 {
		l, want := chosen(code)
		items := "SELECT " + l[0] + ", " + l[1]
		rest := " WHERE " + l[2] + " OR NOT (" + l[3] + ") GROUP BY " + l[4] + ", " + l[5] + " ORDER BY " + l[6] + ", " + l[7]
		text, _ := unmarked(items + " FROM v" + rest)
		wrong(t, text, api.ErrTable)
		if want == api.OK {
			right(t, items+" FROM t"+rest)
			wrong(t, items+", ^d FROM t"+rest+", c", api.ErrGroup)
			wrong(t, items+" FROM t"+rest+", ^c", api.ErrGroup)
			continue
		}
		wrong(t, items+" FROM t"+rest, want)
		wrong(t, strings.Replace(items, "SELECT ", "SELECT c, ", 1)+" FROM t"+rest+", d", want)
	}
}

// Ways, layer 12: a column that is missing, and types that clash, are asked by errors.Is; errors.As finds the place.
func TestFaults(t *testing.T) {
	for marked, why := range map[string]error{
		"SELECT a FROM v": errTable, "SELECT ^z FROM t": errColumn, "SELECT a FROM t WHERE b = 'y' AND ^a = z": errColumn, "SELECT a FROM t GROUP BY ^z": errColumn,
		"SELECT a, ^SUM(b) FROM t": errType, "SELECT a FROM t WHERE ^b IN (1)": errType, "SELECT a FROM t ORDER BY ^SUM(b)": errType,
		"SELECT a FROM t GROUP BY a, ^a": errTwice, "SELECT ^b FROM t GROUP BY a": errGroup, "SELECT * FROM t GROUP BY a": errGroup,
	} {
		text, place := unmarked(marked)
		_, err := checked(read(t, text), catalog())
		var f fault
		if !errors.Is(err, why) || !errors.As(err, &f) || f.place != place {
			t.Errorf("checked(%s): %v, want %v at %d", text, err, why, place)
		}
	}
	if _, err := checked(read(t, "SELECT * FROM t"), catalog()); err != nil {
		t.Errorf("checked of a right one: %v", err)
	}
	if got := (fault{31, errColumn}).Error(); got != "byte 31: no such column" {
		t.Errorf("Error: %q", got)
	}
}
