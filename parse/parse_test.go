package parse

import (
	"errors"
	"reflect"
	"slices"
	"strconv"
	"strings"
	"testing"

	"stillroom/api"
	"stillroom/lex"
)

const front = "SELECT * FROM t WHERE "

func number(n int) api.Value {
	return api.Value{Kind: api.Int, Num: n}
}

func written(s string) api.Value {
	return api.Value{Kind: api.Text, Text: s}
}

var yes, no = api.Value{Kind: api.Bool, Num: 1}, api.Value{Kind: api.Bool}

// right: a text's query must be this one.
func right(t *testing.T, text string, want api.Query) {
	t.Helper()
	q, at, e := Parse(text)
	if !reflect.DeepEqual(q, want) || at != 0 || e != api.OK {
		t.Errorf("Parse(%q): %+v, %d, %d, want %+v", text, q, at, e, want)
	}
}

// where: a predicate's text must be of this one, its places counted from its beginning.
func where(t *testing.T, text string, want api.Pred) {
	t.Helper()
	q, at, e := Parse(front + text)
	places := make([]int, api.MaxQuery)
	for n := range places {
		places[n] = n - len(front)
	}
	if at != 0 || e != api.OK || !reflect.DeepEqual(movedPred(q.Where, places), want) {
		t.Errorf("of %q: %+v, %d, %d, want %+v", text, q.Where, at, e, want)
	}
}

// refused: a text must be refused at a place, with nothing beside.
func refused(t *testing.T, text string, place int, want api.Errno) {
	t.Helper()
	q, at, e := Parse(text)
	if !reflect.DeepEqual(q, api.Query{}) || at != place || e != want {
		t.Fatalf("Parse(%q): %+v, %d, %d, want %d at %d", text, q, at, e, want, place)
	}
}

// P11.1: the chapter's example.
func TestExample(t *testing.T) {
	right(t, "SELECT a, COUNT(*) FROM t WHERE 5 < a AND NOT b IS NULL GROUP BY a", api.Query{
		Items: []api.Item{{Column: "a", At: 7}, {Agg: api.Rows, At: 10}},
		Table: "t",
		Where: api.Pred{Kind: api.PAnd, At: 32, Kids: []api.Pred{
			{Kind: api.PCompare, Column: "a", Rel: api.Gt, Value: number(5), At: 32},
			{Kind: api.PNot, At: 42, Kids: []api.Pred{{Kind: api.PNull, Column: "b", At: 46}}},
		}},
		Group: []api.Item{{Column: "a", At: 65}},
		Limit: -1,
	})
}

// P11.1: what stands beside a predicate.
func TestQuery(t *testing.T) {
	right(t, "SELECT*FROM t", api.Query{All: true, Table: "t", Limit: -1})
	right(t, " SELECT a\nFROM select LIMIT 0 ", api.Query{Items: []api.Item{{Column: "a", At: 8}}, Table: "select", Limit: 0})
	right(t, "SELECT COUNT(*),COUNT(a),SUM(a),MIN(a),MAX(a) FROM t", api.Query{Items: []api.Item{{Agg: api.Rows, At: 7}, {Agg: api.Count, Column: "a", At: 16}, {Agg: api.Sum, Column: "a", At: 25}, {Agg: api.Min, Column: "a", At: 32}, {Agg: api.Max, Column: "a", At: 39}}, Table: "t", Limit: -1})
	right(t, "SELECT * FROM t ORDER BY a, b DESC, SUM(c) ASC, COUNT ( * ) DESC LIMIT 1000", api.Query{All: true, Table: "t", Limit: 1000, Order: []api.Key{
		{Item: api.Item{Column: "a", At: 25}}, {Item: api.Item{Column: "b", At: 28}, Desc: true}, {Item: api.Item{Agg: api.Sum, Column: "c", At: 36}}, {Item: api.Item{Agg: api.Rows, At: 48}, Desc: true},
	}})
	right(t, "SELECT a FROM t GROUP BY b, a, b", api.Query{Items: []api.Item{{Column: "a", At: 7}}, Table: "t", Limit: -1, Group: []api.Item{{Column: "b", At: 25}, {Column: "a", At: 28}, {Column: "b", At: 31}}})
}

// P11.1: comparisons, by each sign, with a name, a literal of each kind, either way.
func TestCompare(t *testing.T) {
	signs := []string{"=", "<>", "<", "<=", ">", ">="}
	turned := []api.Rel{api.Eq, api.Ne, api.Gt, api.Ge, api.Lt, api.Le}
	values := map[string]api.Value{"NULL": {}, "TRUE": yes, "FALSE": no, "0": number(0), "-7": number(-7), "''": written(""), "'a'": written("a")}
	for n, sign := range signs {
		rel := api.Rel(n + 1)
		where(t, "a"+sign+"b", api.Pred{Kind: api.PColumns, Column: "a", Rel: rel, Other: "b"})
		where(t, "b "+sign+" b", api.Pred{Kind: api.PColumns, Column: "b", Rel: rel, Other: "b"})
		for s, v := range values {
			where(t, "a "+sign+s, api.Pred{Kind: api.PCompare, Column: "a", Rel: rel, Value: v})
			where(t, s+sign+" a", api.Pred{Kind: api.PCompare, Column: "a", Rel: turned[n], Value: v})
			for s2, v2 := range values {
				where(t, s+" "+sign+" "+s2, api.Pred{Kind: api.PConst, Value: v, Rel: rel, List: []api.Value{v2}})
			}
		}
	}
}

// P11.1: the other ones.
func TestOnes(t *testing.T) {
	where(t, "TRUE", api.Pred{Kind: api.PTrue})
	where(t, "FALSE", api.Pred{Kind: api.PFalse})
	where(t, "a IS NULL", api.Pred{Kind: api.PNull, Column: "a"})
	where(t, "a IS NOT NULL", api.Pred{Kind: api.PSome, Column: "a"})
	in := api.Pred{Kind: api.PIn, Column: "a", List: []api.Value{number(1), {}, written("x"), yes, number(1)}}
	where(t, "a IN (1, NULL, 'x', TRUE, 1)", in)
	where(t, "a NOT IN (1, NULL, 'x', TRUE, 1)", api.Pred{Kind: api.PNot, Kids: []api.Pred{in}})
	between := api.Pred{Kind: api.PAnd, Kids: []api.Pred{
		{Kind: api.PCompare, Column: "a", Rel: api.Ge, Value: no},
		{Kind: api.PCompare, Column: "a", Rel: api.Le, Value: yes},
	}}
	where(t, "a BETWEEN FALSE AND TRUE", between)
	where(t, "a NOT BETWEEN FALSE AND TRUE", api.Pred{Kind: api.PNot, Kids: []api.Pred{between}})
	where(t, "NOT TRUE", api.Pred{Kind: api.PNot, Kids: []api.Pred{{Kind: api.PTrue, At: 4}}})
	where(t, "NOT NOT a IS NULL", api.Pred{Kind: api.PNot, Kids: []api.Pred{{Kind: api.PNot, At: 4, Kids: []api.Pred{{Kind: api.PNull, Column: "a", At: 8}}}}})
	where(t, "( ( TRUE ) )", api.Pred{Kind: api.PTrue, At: 4})
}

// P11.1: AND ahead of OR, NOT ahead of both; one part alone is itself; brackets make parts of their own; the place is the first token's.
func TestParts(t *testing.T) {
	yes := func(at int) api.Pred { return api.Pred{Kind: api.PTrue, At: at} }
	part := func(kind, at int, l ...api.Pred) api.Pred { return api.Pred{Kind: kind, At: at, Kids: l} }
	where(t, "TRUE AND TRUE AND TRUE", part(api.PAnd, 0, yes(0), yes(9), yes(18)))
	where(t, "TRUE OR TRUE OR TRUE", part(api.POr, 0, yes(0), yes(8), yes(16)))
	where(t, "TRUE AND TRUE OR TRUE", part(api.POr, 0, part(api.PAnd, 0, yes(0), yes(9)), yes(17)))
	where(t, "TRUE OR TRUE AND TRUE", part(api.POr, 0, yes(0), part(api.PAnd, 8, yes(8), yes(17))))
	where(t, "(TRUE OR TRUE) AND TRUE", part(api.PAnd, 0, part(api.POr, 1, yes(1), yes(9)), yes(19)))
	where(t, "(TRUE AND TRUE) AND TRUE", part(api.PAnd, 0, part(api.PAnd, 1, yes(1), yes(10)), yes(20)))
	where(t, "TRUE OR (TRUE OR TRUE)", part(api.POr, 0, yes(0), part(api.POr, 9, yes(9), yes(17))))
	where(t, "NOT TRUE AND TRUE", part(api.PAnd, 0, part(api.PNot, 0, yes(4)), yes(13)))
	where(t, "NOT (TRUE AND TRUE)", part(api.PNot, 0, part(api.PAnd, 5, yes(5), yes(14))))
	where(t, "((TRUE) OR TRUE)", part(api.POr, 1, yes(2), yes(11)))
	where(t, "a BETWEEN 1 AND 2 AND TRUE", part(api.PAnd, 0, part(api.PAnd, 0,
		api.Pred{Kind: api.PCompare, Column: "a", Rel: api.Ge, Value: number(1)},
		api.Pred{Kind: api.PCompare, Column: "a", Rel: api.Le, Value: number(2)}), yes(22)))
}

// P11.1: many queries, each made beside its tree.
func TestMade(t *testing.T) {
	d := dice(11)
	longest := 0
	for range 40000 {
		text, want := made(&d)
		q, at, e := Parse(text)
		if !reflect.DeepEqual(q, want) || at != 0 || e != api.OK {
			t.Fatalf("Parse(%q): %+v, %d, %d, want %+v", text, q, at, e, want)
		}
		longest = max(longest, len(text))
	}
	if longest < api.MaxQuery/2 {
		t.Errorf("the longest text has just %d bytes", longest)
	}
}

// refusedAs: a text must be refused, or not, as the model has it.
func refusedAs(t *testing.T, text string) api.Errno {
	t.Helper()
	place, want := model(text)
	q, at, e := Parse(text)
	if at != place || e != want || e != api.OK && !reflect.DeepEqual(q, api.Query{}) {
		t.Fatalf("Parse(%q): %d at %d, want %d at %d", text, e, at, want, place)
	}
	return e
}

// alphabet: a token of each kind, all words and signs.
var alphabet = strings.Fields("a 1 'a' SELECT FROM WHERE GROUP ORDER BY LIMIT ASC DESC AND OR NOT IS IN BETWEEN NULL TRUE FALSE COUNT SUM MIN MAX <> <= >= = < > * , ( )")

// P11.1: behind each beginning of queries, of so many tokens, each token is right or wrong as the grammar has it.
func TestBeginnings(t *testing.T) {
	for first, more := range map[string]int{"": 6, "SELECT": 6, "SELECT a FROM t": 6, "SELECT a FROM t WHERE": 4, "SELECT a FROM t WHERE a IN (": 4, "SELECT a FROM t WHERE a NOT BETWEEN": 5, "SELECT a FROM t ORDER BY": 6} {
		l := begin()
		tokens, _, _ := lex.Lex(first)
		for _, x := range tokens[:len(tokens)-1] {
			l, _ = l.read(api.Token{}, x)
		}
		follow(t, l, first, more)
	}
}

// follow: behind one beginning, whose ways to go on are known.
func follow(t *testing.T, l reading, text string, more int) {
	t.Helper()
	_, e := l.read(api.Token{}, api.Token{Kind: api.TEnd})
	same(t, text, len(text), e)
	if more == 0 {
		return
	}
	for _, w := range alphabet {
		tokens, _, _ := lex.Lex(w)
		next, e := l.read(api.Token{}, tokens[0])
		longer := text + " " + w
		if e == api.OK {
			follow(t, next, longer, more-1)
		} else {
			same(t, longer, len(longer)-len(w), e)
		}
	}
}

// same: a text must be answered so.
func same(t *testing.T, text string, place int, want api.Errno) {
	t.Helper()
	if want == api.OK {
		place = 0
	}
	if _, at, e := Parse(text); at != place || e != want {
		t.Fatalf("Parse(%q): %d at %d, want %d at %d", text, e, at, want, place)
	}
}

// P11.1: queries that are spoilt at a token.
func TestSpoilt(t *testing.T) {
	d := dice(1111)
	found := map[api.Errno]int{}
	for range 6000 {
		text, _ := made(&d)
		tokens, _, _ := lex.Lex(text)
		at := tokens[d.throw(len(tokens))]
		with := d.one(append(alphabet, "", "1001", "-1", "NOT NOT NOT", "( ( (", "a , a , a", "1 , 1 , 1 , 1", ";")...)
		end := at.At
		if d.throw(2) == 0 {
			end += len(at.Text)
		}
		found[refusedAs(t, text[:at.At]+" "+with+" "+text[end:])]++
	}
	for _, e := range []api.Errno{api.OK, api.ErrSyntax, api.ErrFull, api.ErrRange, api.ErrLex} {
		if found[e] == 0 {
			t.Errorf("no query was answered %d", e)
		}
	}
}

// P11.1: what is no query, told at the first token that is wrong.
func TestSyntax(t *testing.T) {
	for text, place := range map[string]int{
		"": 0, "  ": 2, "a": 0, "FROM t": 0, "SELECT": 6, "SELECT * ": 9, "SELECT *, a FROM t": 8, "SELECT a *": 9, "SELECT (a) FROM t": 7,
		"SELECT COUNT() FROM t": 13, "SELECT COUNT(*, a) FROM t": 14, "SELECT COUNT(1) FROM t": 13, "SELECT COUNT * FROM t": 13, "SELECT MIN(MIN(a)) FROM t": 11,
		"SELECT * FROM": 13, "SELECT * FROM t, u": 15, "SELECT * FROM 't'": 14, "SELECT * FROM t SELECT": 16, "SELECT * FROM t WHERE TRUE WHERE TRUE": 27,
		"SELECT * FROM t GROUP BY": 24, "SELECT * FROM t GROUP BY a ASC": 27, "SELECT * FROM t ORDER a": 22, "SELECT * FROM t ORDER BY 1": 25, "SELECT * FROM t ORDER BY a GROUP BY a": 27, "SELECT * FROM t ORDER BY *": 25,
		"SELECT * FROM t LIMIT": 21, "SELECT * FROM t LIMIT '1'": 22, "SELECT * FROM t LIMIT NULL": 22, "SELECT * FROM t LIMIT 1, 2": 23, "SELECT * FROM t LIMIT 1 1": 24,
		front + "NULL": 26, front + "'a' AND TRUE": 26, front + "TRUE a": 27, front + "TRUE = ": 29, front + "a = TRUE = FALSE": 31, front + "TRUE = TRUE = TRUE": 34, front + "1 = 1 = a": 28,
		front + "a b": 24, front + "a = = b": 26, front + "a = (b)": 26, front + "a = NOT TRUE": 26, front + "a IS": 26, front + "a IS TRUE": 27, front + "a IS NOT 1": 31, front + "1 IS NULL": 24,
		front + "a NOT": 27, front + "a NOT = 1": 28, front + "a NOT NULL": 28, front + "a NOT NOT IN (1)": 28, front + "1 IN (1)": 24, front + "a IN 1": 27, front + "a IN (1": 29, front + "a IN (1,)": 30, front + "a IN (1 2)": 30,
		front + "a BETWEEN": 31, front + "a BETWEEN b AND 1": 32, front + "a BETWEEN 1, 2": 33, front + "a BETWEEN 1 AND b": 38, front + "a BETWEEN 1 AND TRUE = a": 43, front + "a BETWEEN 1": 33,
		front + "()": 23, front + "(a)": 24, front + "TRUE)": 26, front + "(TRUE))": 28, front + "NOT": 25, front + "AND TRUE": 22, front + "TRUE AND": 30, front + "TRUE OR AND": 30, front + "TRUE NOT": 27, front + "COUNT(*) > 1": 22,
	} {
		refused(t, text, place, api.ErrSyntax)
		refusedAs(t, text)
	}
}

// P11.1: Lex's errors are told ahead of all others.
func TestLexFirst(t *testing.T) {
	refused(t, "FROM FROM ;", 10, api.ErrLex)
	refused(t, "SELECT Select", 7, api.ErrLex)
	refused(t, "SELECT * FROM t LIMIT 1001 LIMIT 9223372036854775808", 33, api.ErrRange)
	refused(t, "SELECT * FROM t LIMIT 05", 22, api.ErrLex)
	refused(t, "SELECT * FROM t LIMIT -0", 22, api.ErrLex)
	refused(t, strings.Repeat("=", 251), 250, api.ErrFull)
	refused(t, strings.Repeat(" ", 1501), 1500, api.ErrLong)
}

// P11.1: LIMIT.
func TestLimit(t *testing.T) {
	for _, n := range []int{0, 1, 2, 500, 999, 1000} {
		right(t, "SELECT * FROM t LIMIT "+strconv.Itoa(n), api.Query{All: true, Table: "t", Limit: n})
	}
	for _, n := range []int{-1, -2, -1 << 63, 1001, 1002, 1<<63 - 1} {
		refused(t, "SELECT * FROM t LIMIT "+strconv.Itoa(n), 22, api.ErrRange)
		refused(t, "SELECT * FROM t LIMIT "+strconv.Itoa(n)+" LIMIT 1", 22, api.ErrRange)
		refused(t, "SELECT * FROM t GROUP LIMIT "+strconv.Itoa(n), 22, api.ErrSyntax)
	}
}

// P11.1: items, names and keys, and literals are so many; whatever stands behind the comma of one too many.
func TestFull(t *testing.T) {
	for _, c := range []struct {
		front, part, behind string
		most                int
	}{
		{"SELECT ", "a", " FROM t", 8}, {"SELECT ", "COUNT(*)", " FROM t", 8}, {"SELECT * FROM t GROUP BY ", "a", "", 8}, {"SELECT * FROM t ORDER BY ", "a DESC", " LIMIT 1", 8},
		{front + "a IN (", "1", ")", 12}, {front + "a NOT IN (", "NULL", ")", 12}, {front + "(NOT a IN (", "1", "))", 12},
	} {
		for n := range c.most {
			text := c.front + strings.Repeat(c.part+",", n) + c.part + c.behind
			if _, at, e := Parse(text); at != 0 || e != api.OK {
				t.Errorf("Parse(%q): %d at %d", text, e, at)
			}
		}
		text := c.front + strings.Repeat(c.part+",", c.most)
		refused(t, text, len(text), api.ErrFull)
		for _, w := range append(alphabet, c.part+c.behind, c.part+","+c.part) {
			refused(t, text+" "+w, len(text)+1, api.ErrFull)
		}
		refused(t, text[:len(text)-1]+" "+c.part, len(text), api.ErrSyntax)
	}
}

// P11.1: so many ones stand in one another, by NOTs and by brackets.
func TestDeep(t *testing.T) {
	d := dice(20)
	for range 200 {
		text, closing := front, ""
		for range api.MaxDeep - 1 {
			if d.throw(2) == 0 {
				text += "NOT "
			} else {
				text += d.one("(", "(TRUE AND ", "(a = 1 OR TRUE AND FALSE OR ")
				closing += ")"
			}
		}
		for _, s := range []string{"TRUE", "a NOT IN (1)", "TRUE AND TRUE OR a NOT BETWEEN 1 AND 2", "1 = 1"} {
			if refusedAs(t, text+s+closing+" AND (TRUE)") != api.OK {
				t.Errorf("Parse(%q) is refused", text+s+closing)
			}
		}
		deeper := []string{"NOT ", "("}
		if !strings.HasSuffix(text, "NOT ") {
			// Behind a NOT these wouldn't stand in all of the ones ahead.
			deeper = append(deeper, "TRUE OR NOT ", "TRUE AND (")
		}
		for _, s := range deeper {
			longer := text + s
			for _, w := range append(alphabet, "") {
				refused(t, longer+w, len(longer), api.ErrDeep)
			}
			refused(t, longer+"TRUE))"+closing, len(longer), api.ErrDeep)
		}
	}
	beside := front + strings.Repeat("NOT (TRUE) AND ", 40) + "TRUE"
	if _, at, e := Parse(beside); at != 0 || e != api.OK {
		t.Errorf("Parse(%q): %d at %d", beside, e, at)
	}
	if _, at, e := Parse(front + strings.Repeat("(", 19) + "TRUE" + strings.Repeat(")", 19)); at != 0 || e != api.OK {
		t.Errorf("of 19 brackets: %d at %d", e, at)
	}
	refused(t, front+strings.Repeat("(", 20)+"TRUE"+strings.Repeat(")", 20), len(front)+20, api.ErrDeep)
}

// P9: any tokens, in any order, are answered.
func TestAnyTokens(t *testing.T) {
	d := dice(9)
	for range 3000 {
		var l []string
		for range d.throw(260) {
			l = append(l, d.one(alphabet...))
		}
		refusedAs(t, strings.Join(l, " "))
	}
	refused(t, "\xff", 0, api.ErrLex)
}

// Ways: an error is wrapped at its place, and found by errors.As.
func TestWrapped(t *testing.T) {
	for s, want := range map[string]api.Errno{"SELECT ;": api.ErrLex, "SELECT ,": api.ErrSyntax, "SELECT * FROM t LIMIT -1": api.ErrRange} {
		_, err := read(s)
		var f fault
		var why refusal
		if !errors.As(err, &f) || !errors.As(f.Unwrap(), &why) {
			t.Errorf("of %q: %v", s, err)
			continue
		}
		_, at, e := Parse(s)
		if f.place != at || api.Errno(why) != e || e != want || err.Error() != "byte "+strconv.Itoa(at)+": refused by error "+strconv.Itoa(int(e)) {
			t.Errorf("of %q: %v, but %d at %d", s, err, e, at)
		}
	}
	if _, err := read("SELECT a FROM t"); err != nil {
		t.Errorf("of a query: %v", err)
	}
}

// P11.1: the first error stays.
func TestStays(t *testing.T) {
	l, _, _ := lex.Lex("a b")
	r := reader{rest: slices.Clone(l)}
	r.need("SELECT")
	r.need("FROM")
	r.wrong(api.ErrDeep)
	if f, ok := r.err.(fault); !ok || f != (fault{0, refusal(api.ErrSyntax)}) || len(r.rest) != 1 {
		t.Errorf("%v, %v", r.err, r.rest)
	}
}
