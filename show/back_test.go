package show

import (
	"strings"
	"testing"

	"stillroom/api"
	"stillroom/parse"
)

// back: a query's text is as the model has it (P15.1), and is read as the query (P15.2), unless it is more than may be; what it is refused for then.
func back(t *testing.T, q api.Query) api.Errno {
	t.Helper()
	words := spelt(q)
	s := Query(q)
	if want := laid(words); s != want {
		t.Fatalf("Query of %+v:\n%s, want\n%s", q, s, want)
	}
	if got := Pred(q.Where); q.Where.Kind != 0 && got != laid(speltPred(q.Where)) {
		t.Fatalf("Pred of %+v: %s", q.Where, got)
	}
	want := api.OK
	switch {
	case len(s) > api.MaxQuery:
		want = api.ErrLong
	case len(words) > api.MaxTokens:
		want = api.ErrFull
	case deep(q.Where) > api.MaxDeep:
		want = api.ErrDeep
	}
	p, at, e := parse.Parse(s)
	if e != want || e == api.OK && !parse.Same(p, q) {
		t.Fatalf("%s is read as %+v (%d at %d), want %+v (%d)", s, p, e, at, q, want)
	}
	return e
}

// P15.1, P15.2, P15.3: any queries, and their normal forms.
func TestBack(t *testing.T) {
	d := dice(15)
	came := map[api.Errno]int{}
	forms := map[string]api.Query{}
	for n := range 12000 {
		q := d.query(n % 7)
		came[back(t, q)]++
		form := formed(t, q)
		came[back(t, form)]++
		for _, x := range []api.Query{q, form} {
			s := Query(x)
			if first, ok := forms[s]; ok && !parse.Same(first, x) {
				t.Fatalf("%s is the text of %+v and of %+v", s, first, x)
			}
			forms[s] = x
		}
	}
	if came[api.OK] < 10000 || came[api.ErrLong] < 100 || came[api.ErrFull] < 100 || len(forms) < 10000 {
		t.Errorf("too few of some kind: %v", came)
	}
}

// P15.2: a text that is as long, has as many tokens, is as deep as may be, is read; what is one more is told, too.
func TestLimits(t *testing.T) {
	// Written without blanks, or with BETWEENs, which have brackets in the text, queries are less than their texts are.
	long := "a='" + strings.Repeat("x", 60) + "'" + strings.Repeat(" AND a='"+strings.Repeat("x", 60)+"'", 19) + " AND b="
	full := "a BETWEEN 1 AND 2" + strings.Repeat(" AND a BETWEEN 1 AND 2", 23) + " AND TRUE AND TRUE AND "
	nots := strings.Repeat("NOT ", 17)
	for _, c := range []struct {
		where string
		want  api.Errno
	}{
		{long + "'" + strings.Repeat("y", 52) + "'", api.OK},
		{long + "'" + strings.Repeat("y", 53) + "'", api.ErrLong},
		{full + "TRUE", api.OK},
		{full + "NOT TRUE", api.ErrFull},
		{nots + "NOT NOT a=1", api.OK},
		{nots + "NOT (a=1 OR b=2)", api.OK},
		{nots + "NOT a NOT IN (1)", api.OK},
		{nots + "NOT NOT a NOT IN (1)", api.ErrDeep},
		{nots + "NOT a BETWEEN 1 AND 2", api.OK},
		{nots + "NOT NOT a BETWEEN 1 AND 2", api.ErrDeep},
		{nots + "a NOT BETWEEN 1 AND 2", api.OK},
		{nots + "NOT a NOT BETWEEN 1 AND 2", api.ErrDeep},
		{strings.Repeat("a=1 AND (", 19) + "b=2" + strings.Repeat(")", 19), api.OK},
		{strings.Repeat("a=1 OR (", 19) + "b=2 OR b BETWEEN 2 AND 3" + strings.Repeat(")", 19), api.OK},
		{strings.Repeat("a=1 AND (", 19) + "b=2 AND b BETWEEN 2 AND 3" + strings.Repeat(")", 19), api.ErrDeep},
		{"a NOT IN (1" + strings.Repeat(",1", api.MaxList-1) + ")", api.OK},
	} {
		if e := back(t, read(t, "SELECT a FROM t WHERE "+c.where)); e != c.want {
			t.Errorf("the text of %s: %d, want %d", c.where, e, c.want)
		}
	}
}

// small: all predicates of some that have no Kids, so deep at most, with two Kids at most.
func small(room int) []api.Pred {
	l := []api.Pred{{Kind: api.PTrue}, {Kind: api.PNull, Column: "a"}, {Kind: api.PCompare, Column: "a", Rel: api.Eq, Value: api.Value{Kind: api.Bool, Num: 1}}}
	if room == 0 {
		return l
	}
	kids := small(room - 1)
	for n, kid := range kids {
		l = append(l, api.Pred{Kind: api.PNot, Kids: kids[n : n+1]})
		for _, other := range kids {
			two := []api.Pred{kid, other}
			l = append(l, api.Pred{Kind: api.PAnd, Kids: two}, api.Pred{Kind: api.POr, Kids: two})
		}
	}
	for _, kind := range []int{api.PAnd, api.POr} {
		l = append(l, api.Pred{Kind: kind, Kids: l[:3:3]})
	}
	return l
}

// P15.2, P15.3: all small predicates; each has a text of its own.
func TestSmall(t *testing.T) {
	first := map[string]int{}
	l := small(2)
	for n, p := range l {
		s := Pred(p)
		if m, ok := first[s]; ok && !parse.SamePred(l[m], p) {
			t.Fatalf("%s is the text of %+v and of %+v", s, l[m], p)
		}
		first[s] = n
		back(t, api.Query{All: true, Table: "t", Where: p, Limit: -1})
	}
	if len(l) < 1000 || len(first) != len(l) {
		t.Errorf("%d texts of %d predicates", len(first), len(l))
	}
}

// alike: texts of queries that differ by one thing each; those of one line are the same query.
func alike() [][]string {
	l := [][]string{
		{"SELECT a, b FROM t", " SELECT\ta,b FROM t "}, {"SELECT b, a FROM t"}, {"SELECT a FROM t"}, {"SELECT * FROM t"}, {"SELECT a, b FROM u"},
		{"SELECT COUNT(*) FROM t"}, {"SELECT COUNT(a) FROM t"}, {"SELECT SUM(a) FROM t"}, {"SELECT MIN(a) FROM t"}, {"SELECT MAX(a) FROM t"}, {"SELECT MAX(b) FROM t"}, {"SELECT a, a FROM t"},
		{"SELECT * FROM t LIMIT 0"}, {"SELECT * FROM t LIMIT 1"}, {"SELECT * FROM t LIMIT 1000"},
		{"SELECT * FROM t GROUP BY a"}, {"SELECT * FROM t GROUP BY b"}, {"SELECT * FROM t GROUP BY a, b"}, {"SELECT * FROM t GROUP BY b, a"},
		{"SELECT * FROM t ORDER BY a", "SELECT * FROM t ORDER BY a ASC"}, {"SELECT * FROM t ORDER BY a DESC"}, {"SELECT * FROM t ORDER BY a, b"}, {"SELECT * FROM t ORDER BY a DESC, b", "SELECT * FROM t ORDER BY a DESC, b ASC"}, {"SELECT * FROM t ORDER BY a, b DESC"}, {"SELECT * FROM t ORDER BY COUNT(*)"},
	}
	for _, c := range [][]string{
		{"a = 1", "1 = a", "(a=1)", "((1=a))"}, {"a = 2"}, {"b = 1"}, {"a = -1"}, {"a = '1'"}, {"a = TRUE"}, {"a = NULL"}, {"a = 'NULL'"}, {"a <> 1", "1 <> a"}, {"a < 1", "1 > a"}, {"a <= 1", "1 >= a"}, {"a > 1", "1 < a"}, {"a >= 1", "1 <= a"},
		{"a = b"}, {"b = a"}, {"a < b"}, {"b > a"}, {"1 = 2"}, {"2 = 1"}, {"1 < 2"}, {"2 > 1"}, {"TRUE"}, {"FALSE"}, {"TRUE = TRUE"},
		{"a IN (1)"}, {"a IN (1, 2)"}, {"a IN (2, 1)"}, {"a IN (1, 1)"}, {"a IN ('1, 2')"}, {"a NOT IN (1)", "NOT a IN (1)", "NOT (a IN (1))"}, {"a IS NULL"}, {"a IS NOT NULL"}, {"NOT a IS NULL", "NOT (a IS NULL)"}, {"NOT NOT a IS NULL"},
		{"a = 1 AND b = 2", "(1 = a AND (b = 2))"}, {"b = 2 AND a = 1"}, {"a = 1 OR b = 2"}, {"a BETWEEN 1 AND 2", "a >= 1 AND a <= 2"}, {"a NOT BETWEEN 1 AND 2", "NOT a BETWEEN 1 AND 2", "NOT (a >= 1 AND 2 >= a)"},
		{"a = 1 AND b = 2 AND c = 3"}, {"(a = 1 AND b = 2) AND c = 3"}, {"a = 1 AND (b = 2 AND c = 3)"}, {"a = 1 AND (b = 2 OR c = 3)"}, {"a = 1 AND b = 2 OR c = 3", "(a = 1 AND b = 2) OR c = 3"}, {"a = 1 OR b = 2 AND c = 3", "a = 1 OR (b = 2 AND c = 3)"}, {"(a = 1 OR b = 2) AND c = 3"}, {"a = 1 OR b = 2 OR c = 3"}, {"a = 1 OR (b = 2 OR c = 3)"}, {"(a = 1 OR b = 2) OR c = 3"},
		{"NOT a = 1 AND b = 2", "(NOT a = 1) AND b = 2"}, {"NOT (a = 1 AND b = 2)"},
	} {
		for n := range c {
			c[n] = "SELECT * FROM t WHERE " + c[n]
		}
		l = append(l, c)
	}
	return l
}

// P15.3: two queries have one text just if they are the same, wherever their parts stand.
func TestOneText(t *testing.T) {
	line := map[string]int{}
	for n, c := range alike() {
		for _, s := range c {
			q := read(t, s)
			got := Query(q)
			if first, ok := line[got]; ok && first != n || Query(read(t, c[0])) != got {
				t.Errorf("%s is the text of %s, and of others", got, s)
			}
			line[got] = n
		}
	}
	if len(line) != len(alike()) {
		t.Errorf("%d texts of %d queries", len(line), len(alike()))
	}
}
