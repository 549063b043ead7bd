package norm

import (
	"slices"
	"strings"
	"testing"

	"stillroom/api"
	"stillroom/check"
	"stillroom/parse"
)

func column(name string, k api.Kind, null bool) api.Column {
	return api.Column{Name: name, Kind: k, Null: null}
}

// asking: the table that queries ask: of each kind a column that may be null, and ones that may not.
func asking() api.Table {
	return api.Table{Name: "t", Keys: 1, Columns: []api.Column{
		column("a", api.Int, false), column("b", api.Text, false), column("c", api.Bool, true),
		column("d", api.Int, true), column("e", api.Text, true), column("f", api.Bool, false),
		column("g", api.Int, true), column("h", api.Text, true),
	}}
}

// checked: a text's query.
func checked(t *testing.T, s string) api.Query {
	t.Helper()
	q, at, e := parse.Parse(s)
	if e != api.OK {
		t.Fatalf("Parse(%s): %d at %d", s, e, at)
	}
	q, at, e = check.Check(q, []api.Table{asking()})
	if e != api.OK {
		t.Fatalf("Check(%s): %d at %d", s, e, at)
	}
	return q
}

// read: a text's predicate.
func read(t *testing.T, s string) api.Pred {
	t.Helper()
	return checked(t, "SELECT a FROM t WHERE "+s).Where
}

// placed: has a predicate, or one that stands in it, a place?
func placed(p api.Pred) bool {
	return p.At != 0 || slices.ContainsFunc(p.Kids, placed)
}

// forms: of each text the normal form is the tree that want is read as, Kids in order; that is one's own.
func forms(t *testing.T, l [][2]string) {
	t.Helper()
	for _, c := range l {
		want := read(t, c[1])
		for _, s := range c {
			if got := Pred(asking(), read(t, s)); !parse.SamePred(got, want) || placed(got) {
				t.Errorf("Pred of %s: %+v, want %s", s, got, c[1])
			}
		}
	}
}

// P14.1: the chapter's examples.
func TestExamples(t *testing.T) {
	forms(t, [][2]string{
		{"NOT (a <= 5)", "a >= 6"}, {"a > 3 AND a < 5", "a = 4"}, {"a >= 1 AND a <= 3 AND a <> 3", "a <= 2 AND a >= 1"}, {"a = 1 AND a = 2", "FALSE"},
	})
}

// P14.1: NOT is taken inwards.
func TestNot(t *testing.T) {
	forms(t, [][2]string{
		{"NOT NOT e > 'x'", "e > 'x'"}, {"NOT NOT NOT e > 'x'", "e <= 'x'"}, {"NOT (NOT (e > 'x'))", "e > 'x'"},
		{"NOT e = 'x'", "e <> 'x'"}, {"NOT e <> 'x'", "e = 'x'"}, {"NOT e < 'x'", "e >= 'x'"}, {"NOT e <= 'x'", "e > 'x'"}, {"NOT e >= 'x'", "e < 'x'"},
		{"NOT d < g", "d >= g"}, {"NOT d = g", "d <> g"}, {"NOT d >= g", "d < g"}, {"NOT g > d", "d >= g"},
		{"NOT TRUE", "FALSE"}, {"NOT FALSE", "TRUE"}, {"NOT NOT TRUE", "TRUE"}, {"NOT d IS NULL", "d IS NOT NULL"}, {"NOT d IS NOT NULL", "d IS NULL"},
		{"NOT (b = 'x' AND a = 1)", "a <> 1 OR b <> 'x'"}, {"NOT (b = 'x' OR a = 1)", "a <> 1 AND b <> 'x'"},
		{"NOT (b = 'x' AND NOT (a = 1 OR NOT e = 'z'))", "a = 1 OR b <> 'x' OR e <> 'z'"}, {"NOT (b = 'x' OR NOT (a = 1 AND NOT e = 'z'))", "a = 1 AND b <> 'x' AND e <> 'z'"},
		{"NOT (a = 1 AND (b = 'x' OR d IS NULL) AND e > 'y')", "a <> 1 OR e <= 'y' OR b <> 'x' AND d IS NOT NULL"},
		{"a NOT BETWEEN 2 AND 4", "a <= 1 OR a >= 5"}, {"NOT a NOT BETWEEN 2 AND 4", "a <= 4 AND a >= 2"},
	})
}

// P14.1: IN, with NOT and without, with null and without.
func TestIn(t *testing.T) {
	forms(t, [][2]string{
		{"d IN (3, 1, 2)", "d IN (1, 2, 3)"}, {"d IN (3, NULL, 1, 3, NULL, 1)", "d IN (1, 3)"}, {"d IN (-1, 0, -9223372036854775808)", "d IN (-9223372036854775808, -1, 0)"},
		{"d IN (3)", "d = 3"}, {"d IN (3, NULL, 3)", "d = 3"}, {"d IN (NULL)", "FALSE"}, {"d IN (NULL, NULL)", "FALSE"},
		{"d NOT IN (3, 1, 3)", "d <> 1 AND d <> 3"}, {"d NOT IN (3)", "d <> 3"}, {"d NOT IN (3, NULL)", "FALSE"}, {"d NOT IN (NULL)", "FALSE"}, {"NOT d NOT IN (3, NULL, 1)", "d IN (1, 3)"},
		{"e IN ('b', '', 'ab', 'a', 'b')", "e IN ('', 'a', 'ab', 'b')"}, {"e NOT IN ('b', '', 'b')", "e <> '' AND e <> 'b'"}, {"e IN ('')", "e = ''"},
		{"c IN (TRUE)", "c = TRUE"}, {"c NOT IN (TRUE)", "c = FALSE"}, {"c NOT IN (TRUE, FALSE)", "FALSE"}, {"c IN (TRUE, NULL)", "c = TRUE"}, {"c NOT IN (TRUE, NULL)", "FALSE"},
		{"NOT (d IN (1, 2) AND e = 'x')", "e <> 'x' OR d <> 1 AND d <> 2"}, {"NOT (d IN (1, 2) OR e = 'x')", "d <> 1 AND d <> 2 AND e <> 'x'"},
	})
}

// P14.1: comparisons with null, of two literals, of two columns, of a column and itself.
func TestComparisons(t *testing.T) {
	forms(t, [][2]string{
		{"d = NULL", "FALSE"}, {"d <> NULL", "FALSE"}, {"d < NULL", "FALSE"}, {"d >= NULL", "FALSE"}, {"NOT d = NULL", "FALSE"}, {"NOT d <> NULL", "FALSE"}, {"NULL <= e", "FALSE"}, {"d BETWEEN NULL AND 3", "FALSE"}, {"d NOT BETWEEN NULL AND 3", "d >= 4"},
		{"1 = 1", "TRUE"}, {"1 = 2", "FALSE"}, {"NOT 1 = 2", "TRUE"}, {"NOT 1 = 1", "FALSE"}, {"NULL = 1", "FALSE"}, {"NOT NULL = 1", "FALSE"}, {"1 <> NULL", "FALSE"}, {"NULL = NULL", "FALSE"}, {"NOT NULL = NULL", "FALSE"},
		{"'a' < 'b'", "TRUE"}, {"'b' <= 'a'", "FALSE"}, {"NOT 'b' <= 'a'", "TRUE"}, {"FALSE < TRUE", "TRUE"}, {"2 > 1", "TRUE"}, {"2 >= 3", "FALSE"}, {"2 <> 2", "FALSE"},
		{"d = a", "a = d"}, {"d <> a", "a <> d"}, {"d < a", "a > d"}, {"d <= a", "a >= d"}, {"d > a", "a < d"}, {"d >= a", "a <= d"}, {"h < b", "b > h"}, {"f = c", "c = f"},
		{"a < d", "a < d"}, {"b >= e", "b >= e"}, {"c <> f", "c <> f"}, {"c <= f AND f >= c", "c <= f"}, {"a < d AND d > a", "a < d"}, {"a < d AND a >= d", "a < d AND a >= d"},
		{"d = d", "d IS NOT NULL"}, {"d <= d", "d IS NOT NULL"}, {"d >= d", "d IS NOT NULL"}, {"d <> d", "FALSE"}, {"d < d", "FALSE"}, {"d > d", "FALSE"},
		{"NOT d = d", "FALSE"}, {"NOT d <= d", "FALSE"}, {"NOT d <> d", "d IS NOT NULL"}, {"NOT d < d", "d IS NOT NULL"}, {"e = e", "e IS NOT NULL"}, {"c >= c", "c IS NOT NULL"},
		{"a = a", "TRUE"}, {"a < a", "FALSE"}, {"NOT a <> a", "TRUE"}, {"b <= b", "TRUE"}, {"f >= f", "TRUE"}, {"d = d AND d > 4", "d >= 5"}, {"d = d AND d IS NULL", "FALSE"},
	})
}

// P14.1: PNull and PSome, of columns that may be null and that may not.
func TestNull(t *testing.T) {
	forms(t, [][2]string{
		{"d IS NULL", "d IS NULL"}, {"d IS NOT NULL", "d IS NOT NULL"}, {"a IS NULL", "FALSE"}, {"a IS NOT NULL", "TRUE"}, {"NOT a IS NULL", "TRUE"}, {"NOT b IS NOT NULL", "FALSE"}, {"f IS NULL", "FALSE"}, {"f IS NOT NULL", "TRUE"},
		{"d IS NULL AND d IS NULL", "d IS NULL"}, {"d IS NULL AND g IS NULL", "d IS NULL AND g IS NULL"}, {"e IS NULL AND c IS NULL", "c IS NULL AND e IS NULL"},
		{"d IS NULL AND d IS NOT NULL", "FALSE"}, {"d IS NULL AND d = 1", "FALSE"}, {"d > 1 AND d IS NULL", "FALSE"}, {"d IS NULL AND d IN (1, 2)", "FALSE"}, {"d IS NULL AND d <> 1", "FALSE"}, {"e IS NULL AND e < 'x'", "FALSE"}, {"c = TRUE AND c IS NULL", "FALSE"}, {"d IS NULL AND d >= -9223372036854775808", "FALSE"},
		{"d IS NULL AND a = 1", "a = 1 AND d IS NULL"}, {"d IS NULL AND a < d", "a < d AND d IS NULL"}, {"d IS NULL AND (d = 1 OR a = 1)", "d IS NULL AND (a = 1 OR d = 1)"},
		{"d IS NULL OR d IS NOT NULL", "d IS NULL OR d IS NOT NULL"}, {"a IS NULL OR d = 1", "d = 1"}, {"a IS NOT NULL OR d = 1", "TRUE"},
		{"d IS NOT NULL AND d <> 4", "d <> 4"}, {"d IS NOT NULL AND d IS NOT NULL", "d IS NOT NULL"}, {"e IS NOT NULL AND e <> 'x'", "e <> 'x'"}, {"c IS NOT NULL AND c <> TRUE", "c = FALSE"}, {"a IS NOT NULL AND a <> 4", "a <> 4"}, {"a IS NOT NULL AND b IS NOT NULL", "TRUE"}, {"a IS NOT NULL AND d IS NOT NULL", "d IS NOT NULL"},
	})
}

// P14.1: what an AND tells of an int, without a PIn or an =.
func TestInts(t *testing.T) {
	forms(t, [][2]string{
		{"d > 5", "d >= 6"}, {"d < 5", "d <= 4"}, {"d >= 5", "d >= 5"}, {"d <= 5", "d <= 5"}, {"5 < d", "d >= 6"}, {"d <> 5", "d <> 5"}, {"d < 0", "d <= -1"}, {"d > -1", "d >= 0"},
		{"d > 5 AND d >= 5", "d >= 6"}, {"d > 5 AND d >= 6", "d >= 6"}, {"d > 5 AND d >= 7", "d >= 7"}, {"d < 5 AND d <= 5", "d <= 4"}, {"d < 5 AND d <= 4", "d <= 4"}, {"d < 5 AND d <= 3", "d <= 3"}, {"d >= 1 AND d >= 9 AND d >= 4", "d >= 9"}, {"d <= 1 AND d <= 9 AND d <= -4", "d <= -4"},
		{"d >= 4 AND d <= 4", "d = 4"}, {"d > 3 AND d < 6 AND d <> 4", "d = 5"}, {"d > 3 AND d < 6 AND d <> 5", "d = 4"}, {"d > 3 AND d < 4", "FALSE"}, {"d >= 5 AND d <= 4", "FALSE"}, {"d > 9 AND d < 1", "FALSE"}, {"d > 3 AND d < 6 AND d NOT IN (4, 5)", "FALSE"}, {"d >= 4 AND d <= 4 AND d <> 4", "FALSE"},
		{"d >= 1 AND d <= 9 AND d NOT IN (1, 2, 4, 8, 9)", "d <> 4 AND d <= 7 AND d >= 3"}, {"d >= 1 AND d <= 9 AND d NOT IN (2, 8)", "d <> 2 AND d <> 8 AND d <= 9 AND d >= 1"}, {"d >= 1 AND d NOT IN (3, 2, 1)", "d >= 4"}, {"d <= 1 AND d NOT IN (-1, 0, 1)", "d <= -2"}, {"d >= 1 AND d NOT IN (0, -7)", "d >= 1"}, {"d <= 1 AND d NOT IN (2, 100)", "d <= 1"}, {"d BETWEEN 1 AND 9 AND d >= 3 AND d <> 100", "d <= 9 AND d >= 3"}, {"d >= 1 AND d NOT IN (3, 5, 1)", "d <> 3 AND d <> 5 AND d >= 2"}, {"d <> 7 AND d <> -7 AND d <> 0 AND d <> 7", "d <> -7 AND d <> 0 AND d <> 7"},
		{"d BETWEEN 1 AND 5 AND d NOT IN (1, 2, 3) AND d <> 5", "d = 4"}, {"d BETWEEN 1 AND 5 AND d NOT IN (5, 4, 3) AND d <> 1", "d = 2"}, {"d BETWEEN 1 AND 5 AND d NOT IN (1, 2, 3, 4, 5)", "FALSE"}, {"d BETWEEN 1 AND 3 AND d <> 2", "d <> 2 AND d <= 3 AND d >= 1"},
	})
}

// P14.1: likewise, at the least and the greatest int.
func TestEndsOfInts(t *testing.T) {
	forms(t, [][2]string{
		{"d >= -9223372036854775808", "d IS NOT NULL"}, {"d <= 9223372036854775807", "d IS NOT NULL"}, {"d >= -9223372036854775808 AND d <= 9223372036854775807", "d IS NOT NULL"}, {"a >= -9223372036854775808", "TRUE"}, {"a <= 9223372036854775807", "TRUE"}, {"d > -9223372036854775808", "d >= -9223372036854775807"}, {"d < 9223372036854775807", "d <= 9223372036854775806"},
		{"d < -9223372036854775808", "FALSE"}, {"d > 9223372036854775807", "FALSE"}, {"a > 9223372036854775807", "FALSE"}, {"d <= -9223372036854775808", "d = -9223372036854775808"}, {"d >= 9223372036854775807", "d = 9223372036854775807"}, {"d > 9223372036854775806", "d = 9223372036854775807"}, {"d < -9223372036854775807", "d = -9223372036854775808"}, {"NOT d <= 9223372036854775807", "FALSE"}, {"NOT d >= -9223372036854775808", "FALSE"},
		{"d <> -9223372036854775808", "d >= -9223372036854775807"}, {"d <> 9223372036854775807", "d <= 9223372036854775806"}, {"d NOT IN (-9223372036854775808, -9223372036854775807, 9223372036854775807)", "d <= 9223372036854775806 AND d >= -9223372036854775806"}, {"d <> -9223372036854775807", "d <> -9223372036854775807"}, {"d NOT IN (-9223372036854775808, 9223372036854775806)", "d <> 9223372036854775806 AND d >= -9223372036854775807"},
		{"d >= 9223372036854775807 AND d <> 9223372036854775807", "FALSE"}, {"d <= -9223372036854775808 AND d <> -9223372036854775808", "FALSE"}, {"d >= 9223372036854775806 AND d <> 9223372036854775807", "d = 9223372036854775806"}, {"d >= 9223372036854775806 AND d NOT IN (9223372036854775806, 9223372036854775807)", "FALSE"}, {"d <= -9223372036854775807 AND d NOT IN (-9223372036854775808, -9223372036854775807)", "FALSE"}, {"d > 9223372036854775807 AND d <> 9223372036854775807", "FALSE"},
	})
}

// P14.1: what an AND tells of a text, without a PIn or an =.
func TestTexts(t *testing.T) {
	forms(t, [][2]string{
		{"e > 'a'", "e > 'a'"}, {"e >= 'a'", "e >= 'a'"}, {"e < 'a'", "e < 'a'"}, {"e <= 'a'", "e <= 'a'"}, {"e <> 'a'", "e <> 'a'"},
		{"e > 'a' AND e >= 'a'", "e > 'a'"}, {"e < 'a' AND e <= 'a'", "e < 'a'"}, {"e > 'a' AND e >= 'b'", "e >= 'b'"}, {"e >= 'a' AND e > 'b'", "e > 'b'"}, {"e <= 'a' AND e < 'b'", "e <= 'a'"}, {"e < 'a' AND e <= 'b'", "e < 'a'"},
		{"e >= 'a' AND e <> 'a'", "e > 'a'"}, {"e <= 'a' AND e <> 'a'", "e < 'a'"}, {"e > 'a' AND e <> 'a'", "e > 'a'"}, {"e < 'a' AND e <> 'a'", "e < 'a'"}, {"e >= 'a' AND e NOT IN ('a', 'a\\00')", "e <> 'a\\00' AND e > 'a'"},
		{"e >= 'b' AND e <= 'd' AND e NOT IN ('a', 'b', 'c', 'ca', 'd', 'e')", "e <> 'c' AND e <> 'ca' AND e < 'd' AND e > 'b'"}, {"e > 'b' AND e NOT IN ('a', 'c')", "e <> 'c' AND e > 'b'"}, {"e < 'b' AND e NOT IN ('a', 'c')", "e <> 'a' AND e < 'b'"}, {"e NOT IN ('c', 'a', '', 'c')", "e <> '' AND e <> 'a' AND e <> 'c'"}, {"e <> 'c' AND e <> 'a'", "e <> 'a' AND e <> 'c'"},
		{"e >= 'a' AND e <= 'a'", "e = 'a'"}, {"e > 'a' AND e <= 'a'", "FALSE"}, {"e >= 'a' AND e < 'a'", "FALSE"}, {"e > 'a' AND e < 'a'", "FALSE"}, {"e >= 'a' AND e <= 'a' AND e <> 'a'", "FALSE"}, {"e > 'b' AND e < 'a'", "FALSE"}, {"e >= 'b' AND e <= 'a'", "FALSE"}, {"e >= 'a' AND e <= 'a' AND e <> 'b'", "e = 'a'"},
		{"e > 'a' AND e < 'a\\00'", "e < 'a\\00' AND e > 'a'"}, {"e >= 'a' AND e <= 'a\\00' AND e NOT IN ('a', 'a\\00')", "e < 'a\\00' AND e > 'a'"}, {"e < ''", "e < ''"}, {"e <= ''", "e <= ''"}, {"e >= ''", "e >= ''"}, {"e <= '' AND e <> ''", "e < ''"}, {"e >= '' AND e <= ''", "e = ''"}, {"b >= ''", "b >= ''"}, {"b < ''", "b < ''"}, {"e > '" + strings.Repeat("\\ff", api.MaxText) + "'", "e > '" + strings.Repeat("\\ff", api.MaxText) + "'"},
	})
}

// P14.1: what an AND tells of a column with a PIn or an =.
func TestListed(t *testing.T) {
	forms(t, [][2]string{
		{"d IN (1, 2, 3) AND d > 1", "d IN (2, 3)"}, {"d IN (1, 2, 3) AND d >= 3", "d = 3"}, {"d IN (1, 2, 3) AND d <> 2", "d IN (1, 3)"}, {"d IN (1, 2) AND d IN (3, 2)", "d = 2"}, {"d IN (1, 2) AND d IN (3, 4)", "FALSE"}, {"d IN (4, 1, 2, 3) AND d IN (3, 2, 1, 9) AND d IN (1, 3)", "d IN (1, 3)"}, {"d IN (1, 2) AND d > 5", "FALSE"}, {"d IN (1, 2) AND d IS NOT NULL", "d IN (1, 2)"}, {"d IN (1, NULL, 2) AND d NOT IN (2, 7)", "d = 1"},
		{"d = 1 AND d = 1", "d = 1"}, {"d = 1 AND d = 2", "FALSE"}, {"d = 1 AND d > 0 AND d <> 9", "d = 1"}, {"d = 1 AND d <> 1", "FALSE"}, {"d > 1 AND d = 1", "FALSE"}, {"d = 1 AND d IN (1, 2)", "d = 1"}, {"d = 1 AND d IN (3, 2)", "FALSE"}, {"d = 1 AND d IS NOT NULL", "d = 1"}, {"d = -9223372036854775808 AND d < 0", "d = -9223372036854775808"}, {"d IN (1, 2) AND d >= -9223372036854775808", "d IN (1, 2)"},
		{"e IN ('a', 'b', 'c') AND e > 'a'", "e IN ('b', 'c')"}, {"e IN ('a', 'b') AND e < 'b'", "e = 'a'"}, {"e = 'a' AND e > 'a'", "FALSE"}, {"e = 'a' AND e >= 'a' AND e <= 'a'", "e = 'a'"}, {"e IN ('a', 'b') AND e > 'a' AND e < 'b'", "FALSE"}, {"e = '' AND e <= ''", "e = ''"}, {"e = 'x' AND e < ''", "FALSE"},
		{"a IN (1, 2) AND a IS NOT NULL", "a IN (1, 2)"}, {"a = 1 AND d = 2 AND a = 1", "a = 1 AND d = 2"}, {"a = 1 AND d = 2 AND a = 2", "FALSE"},
	})
}

// P14.1: what an AND tells of a bool.
func TestBools(t *testing.T) {
	forms(t, [][2]string{
		{"c = TRUE", "c = TRUE"}, {"c = FALSE", "c = FALSE"}, {"c <> TRUE", "c = FALSE"}, {"c <> FALSE", "c = TRUE"}, {"c < TRUE", "c = FALSE"}, {"c > FALSE", "c = TRUE"}, {"c <= FALSE", "c = FALSE"}, {"c >= TRUE", "c = TRUE"},
		{"c < FALSE", "FALSE"}, {"c > TRUE", "FALSE"}, {"c >= FALSE", "c IS NOT NULL"}, {"c <= TRUE", "c IS NOT NULL"}, {"f >= FALSE", "TRUE"}, {"f <= TRUE", "TRUE"}, {"c IN (TRUE, FALSE)", "c IS NOT NULL"}, {"f IN (FALSE, TRUE)", "TRUE"}, {"NOT f IN (FALSE, TRUE)", "FALSE"},
		{"c = TRUE AND c = FALSE", "FALSE"}, {"c <> TRUE AND c <> FALSE", "FALSE"}, {"c <> TRUE AND c IS NOT NULL", "c = FALSE"}, {"c >= FALSE AND c <= TRUE", "c IS NOT NULL"}, {"c IN (TRUE, FALSE) AND c <> TRUE", "c = FALSE"}, {"f <> TRUE", "f = FALSE"},
	})
}

// P14.1: ANDs and ORs: Kids of one's own kind, PTrue and PFalse, none, one, the order, parts that come twice.
func TestJunctions(t *testing.T) {
	forms(t, [][2]string{
		{"TRUE", "TRUE"}, {"FALSE", "FALSE"}, {"TRUE AND TRUE", "TRUE"}, {"TRUE AND FALSE", "FALSE"}, {"TRUE OR FALSE", "TRUE"}, {"FALSE OR FALSE", "FALSE"}, {"TRUE AND a = 1", "a = 1"}, {"FALSE AND a = 1", "FALSE"}, {"TRUE OR a = 1", "TRUE"}, {"FALSE OR a = 1", "a = 1"},
		{"a = 2 OR a = 1", "a = 1 OR a = 2"}, {"a = 1 OR a = 1", "a = 1"}, {"a = 1 OR a IN (1)", "a = 1"}, {"(a = 3 OR a = 1) OR (a = 2 OR (a = 1 OR FALSE))", "a = 1 OR a = 2 OR a = 3"}, {"a > 1 OR a >= 2", "a >= 2"}, {"a > 1 OR a > 2", "a >= 2 OR a >= 3"}, {"a <= 1 OR a >= 2", "a <= 1 OR a >= 2"},
		{"(b = 'x' AND a = 1) AND (e = 'y' AND (d = 2 AND a = 1))", "a = 1 AND b = 'x' AND d = 2 AND e = 'y'"}, {"a > 1 AND (b = 'x' AND (a < 9 AND a <> 2))", "a <= 8 AND a >= 3 AND b = 'x'"},
		{"d = 1 AND (a = 1 OR a = 1)", "a = 1 AND d = 1"}, {"a > 1 AND (FALSE OR (e = 'x' AND a < 9))", "a <= 8 AND a >= 2 AND e = 'x'"}, {"a > 1 AND (a < 9 OR e = 'x' AND e = 'y')", "a <= 8 AND a >= 2"}, {"a = 1 OR (TRUE AND (a = 3 OR a = 2))", "a = 1 OR a = 2 OR a = 3"}, {"a = 1 OR a >= -9223372036854775808 AND (a = 3 OR a = 2)", "a = 1 OR a = 2 OR a = 3"}, {"a = 1 AND (b = 'x' OR 1 = 1)", "a = 1"}, {"a = 1 OR b = 'x' AND b = 'y'", "a = 1"}, {"a = 1 AND (b < 'x' AND b > 'x' OR a = 2)", "FALSE"}, {"a = 1 OR a <= 9223372036854775807", "TRUE"},
		{"a = 1 AND (b = 'y' OR b = 'x') AND (b = 'x' OR b = 'y')", "a = 1 AND (b = 'x' OR b = 'y')"}, {"(b = 'y' OR b = 'x') AND (b = 'x' OR b = 'y')", "b = 'x' OR b = 'y'"}, {"d = 9 OR (b = 'y' OR b = 'x') AND (b = 'x' OR b = 'y')", "b = 'x' OR b = 'y' OR d = 9"},
		{"a NOT IN (1, 2) AND a <> 3", "a <> 1 AND a <> 2 AND a <> 3"}, {"a NOT IN (1, 2) OR a = 1", "a = 1 OR a <> 1 AND a <> 2"}, {"a = 1 OR a > 3 AND a < 5", "a = 1 OR a = 4"},
		{"(a = 1 OR b = 'x') AND (d = 1 OR a > 3 AND a < 9)", "(a = 1 OR b = 'x') AND (d = 1 OR a <= 8 AND a >= 4)"},
	})
}

// P14.1: Kids stand in the order of predicates: by Kind, Column, Rel, Value, Other, List, Kids.
func TestOrder(t *testing.T) {
	forms(t, [][2]string{
		{"(g = 1 OR g = 2) AND e IS NOT NULL AND c IS NULL AND a IN (1, 2) AND a < d AND h = 'x'", "h = 'x' AND a < d AND a IN (1, 2) AND c IS NULL AND e IS NOT NULL AND (g = 1 OR g = 2)"},
		{"(e = 'x' AND d = 1) OR e IS NOT NULL OR c IS NULL OR a IN (1, 2) OR a < d OR h = 'x'", "h = 'x' OR a < d OR a IN (1, 2) OR c IS NULL OR e IS NOT NULL OR d = 1 AND e = 'x'"},
		{"e >= 'a' OR e > 'a' OR e <= 'a' OR e < 'a' OR e <> 'a' OR e = 'a' OR e = '' OR b = 'z' OR e = 'A'", "b = 'z' OR e = '' OR e = 'A' OR e = 'a' OR e <> 'a' OR e < 'a' OR e <= 'a' OR e > 'a' OR e >= 'a'"},
		{"d > g OR a < g OR a < d OR d = g OR a = g OR b = e", "a = g OR a < d OR a < g OR b = e OR d = g OR d > g"},
		{"d IN (2, 3) OR d IN (1, 2, 3) OR d IN (1, 3) OR d IN (1, 2)", "d IN (1, 2) OR d IN (1, 2, 3) OR d IN (1, 3) OR d IN (2, 3)"},
		{"a = 2 AND b = 'x' OR a = 1 AND b = 'y' OR a = 1 AND b = 'x' AND d = 1 OR a = 1 AND b = 'x'", "a = 1 AND b = 'x' OR a = 1 AND b = 'x' AND d = 1 OR a = 1 AND b = 'y' OR a = 2 AND b = 'x'"},
		{"d = 1 OR d = -1 OR d = 10 OR d = 2 OR d = 0", "d = -1 OR d = 0 OR d = 1 OR d = 2 OR d = 10"},
	})
}

// P14.1, R7: of Kind 0 a predicate, or a Kid, is true.
func TestNone(t *testing.T) {
	none, one := api.Pred{}, read(t, "a = 1")
	for _, c := range []struct {
		p    api.Pred
		want string
	}{
		{none, "TRUE"}, {api.Pred{Kind: api.PNot, Kids: []api.Pred{none}}, "FALSE"}, {api.Pred{Kind: api.PNot, Kids: []api.Pred{{Kind: api.PNot, Kids: []api.Pred{none}}}}, "TRUE"},
		{api.Pred{Kind: api.PAnd, Kids: []api.Pred{none, one}}, "a = 1"}, {api.Pred{Kind: api.PAnd, Kids: []api.Pred{none, none}}, "TRUE"}, {api.Pred{Kind: api.POr, Kids: []api.Pred{one, none}}, "TRUE"},
		{api.Pred{Kind: api.PNot, Kids: []api.Pred{{Kind: api.PAnd, Kids: []api.Pred{one, none}}}}, "a <> 1"}, {api.Pred{Kind: api.PNot, Kids: []api.Pred{{Kind: api.POr, Kids: []api.Pred{one, none}}}}, "FALSE"},
		{api.Pred{Kind: api.PAnd}, "TRUE"}, {api.Pred{Kind: api.POr}, "FALSE"}, {api.Pred{Kind: api.PAnd, Kids: []api.Pred{one}}, "a = 1"}, {api.Pred{Kind: api.POr, Kids: []api.Pred{one}}, "a = 1"},
	} {
		if got := Pred(asking(), c.p); !parse.SamePred(got, read(t, c.want)) {
			t.Errorf("Pred of %+v: %+v, want %s", c.p, got, c.want)
		}
	}
}

// P14.1: what a column's form is hangs on what the table says of it.
func TestTable(t *testing.T) {
	one := api.Table{Name: "u", Keys: 1, Columns: []api.Column{column("z", api.Text, false), column("d", api.Int, false), column("a", api.Int, true)}}
	for s, want := range map[string]string{"d IS NULL": "FALSE", "d IS NOT NULL": "TRUE", "a IS NULL": "a IS NULL", "a = a": "a IS NOT NULL", "d = d": "TRUE", "d >= -9223372036854775808": "TRUE", "d > 1": "d >= 2"} {
		if got := Pred(one, read(t, s)); !parse.SamePred(got, read(t, want)) {
			t.Errorf("Pred of %s: %+v, want %s", s, got, want)
		}
	}
}
