package check

import (
	"math"
	"runtime/debug"
	"slices"
	"strings"
	"testing"

	"stillroom/api"
)

// P12.1: Grouped, of queries that are right and that aren't.
func TestGrouped(t *testing.T) {
	for text, want := range map[string]bool{
		"SELECT * FROM t": false, "SELECT a FROM t": false, "SELECT a, b FROM v WHERE a = b ORDER BY a, b DESC LIMIT 1": false,
		"SELECT COUNT(*) FROM t": true, "SELECT COUNT(a) FROM t": true, "SELECT SUM(z) FROM t": true, "SELECT MIN(a) FROM t": true, "SELECT a, b, MAX(a) FROM t": true,
		"SELECT a FROM t GROUP BY a": true, "SELECT * FROM t GROUP BY z, z": true,
		"SELECT a FROM t ORDER BY COUNT(*)": true, "SELECT * FROM t ORDER BY a, b, MIN(z) DESC": true, "SELECT a FROM t ORDER BY SUM(b), a": true,
	} {
		if got := Grouped(read(t, text)); got != want {
			t.Errorf("Grouped(%s): %v", text, got)
		}
	}
	if Grouped(api.Query{}) || Grouped(api.Query{Items: []api.Item{}, Group: []api.Item{}, Order: []api.Key{}}) {
		t.Error("Grouped of nothing")
	}
}

// P12.1: Kind, of each aggregate of each column, and of one that isn't there.
func TestKind(t *testing.T) {
	for _, c := range asking().Columns {
		for agg, want := range map[api.Agg]api.Kind{api.Plain: c.Kind, api.Rows: api.Int, api.Count: api.Int, api.Sum: api.Int, api.Min: c.Kind, api.Max: c.Kind} {
			x := api.Item{Agg: agg, Column: c.Name, At: 9}
			if got := Kind(asking(), x); got != want {
				t.Errorf("Kind(%v): %d, want %d", x, got, want)
			}
		}
	}
	for _, name := range []string{"", "z", "aa", "A", "t"} {
		for agg := api.Plain; agg <= api.Max; agg++ {
			want := api.Null
			if agg == api.Rows {
				want = api.Int
			}
			for _, table := range []api.Table{asking(), {}} {
				if got := Kind(table, api.Item{Agg: agg, Column: name}); got != want {
					t.Errorf("Kind of aggregate %d of %q: %d, want %d", agg, name, got, want)
				}
			}
		}
	}
}

// P12.1: Columns, of each part of a query, rising, each once; those that no table has too.
func TestColumns(t *testing.T) {
	for text, want := range map[string]string{
		"SELECT * FROM t": "", "SELECT COUNT(*) FROM a": "", "SELECT COUNT(*) FROM a ORDER BY COUNT(*)": "", "SELECT * FROM a WHERE TRUE OR NOT FALSE AND 1 = 'b'": "",
		"SELECT a FROM t": "a", "SELECT b, a, b FROM t": "a b", "SELECT COUNT(z), SUM(y), MIN(x), MAX(w) FROM t": "w x y z",
		"SELECT * FROM t WHERE z = 1": "z", "SELECT * FROM t WHERE 1 < z": "z", "SELECT * FROM t WHERE z <> y": "y z", "SELECT * FROM t WHERE z = z": "z",
		"SELECT * FROM t WHERE z IN ('b', 'c')": "z", "SELECT * FROM t WHERE z IS NULL": "z", "SELECT * FROM t WHERE z IS NOT NULL": "z", "SELECT * FROM t WHERE z NOT BETWEEN 1 AND 2": "z",
		"SELECT * FROM t WHERE a = 1 AND (e < 2 OR NOT (d IS NULL AND NOT a = c)) OR b IN (1)": "a b c d e",
		"SELECT * FROM t GROUP BY c, b": "b c", "SELECT * FROM t ORDER BY d DESC, MAX(c), a": "a c d",
		"SELECT c, a1, SUM(a_) FROM t WHERE aa = a GROUP BY c, b_1 ORDER BY b, c": "a a1 a_ aa b b_1 c",
	} {
		q := read(t, text)
		if got := strings.Join(Columns(q), " "); got != want {
			t.Errorf("Columns(%s): %q, want %q", text, got, want)
		}
		if r, _, e := Check(q, catalog()); e == api.OK && strings.Join(Columns(r), " ") != want {
			t.Errorf("Columns of %s that was checked: %q, want %q", text, Columns(r), want)
		}
	}
	if l := Columns(api.Query{}); len(l) != 0 {
		t.Errorf("Columns of nothing: %q", l)
	}
}

// P9: predicates of any depth.
func TestDeep(t *testing.T) {
	defer debug.SetMaxStack(debug.SetMaxStack(1 << 24))
	q := read(t, "SELECT a FROM t WHERE b = 'x'")
	for n := range 300000 {
		q.Where = api.Pred{Kind: api.PNot, Kids: []api.Pred{q.Where}, At: n}
	}
	got, at, e := Check(q, catalog())
	if at != 0 || e != api.OK {
		t.Fatalf("Check: %d, %d", at, e)
	}
	depth := 0
	for p := got.Where; len(p.Kids) > 0; p = p.Kids[0] {
		depth++
	}
	if depth != 300000 {
		t.Errorf("Check: %d deep", depth)
	}
	if l := Columns(got); !slices.Equal(l, []string{"a", "b"}) {
		t.Errorf("Columns: %q", l)
	}
}

// P9: no call panics, of what no text says either.
func TestOdd(t *testing.T) {
	for _, n := range []int{math.MinInt, -1, 0, 1, 2, 3, 4, 5, 6, 7, 8, 9, 10, 11, 12, math.MaxInt} {
		p := api.Pred{Kind: n, Column: "a", Value: api.Value{Kind: api.Kind(n)}, Kids: []api.Pred{{Kind: n}, {}}, At: -n}
		x := api.Item{Agg: api.Agg(n), Column: "b", At: n}
		q := api.Query{Items: []api.Item{x}, All: n%2 == 0, Table: "t", Where: p, Group: []api.Item{x}, Order: []api.Key{{Item: x}}, Limit: n, At: n}
		Check(q, catalog())
		Grouped(q)
		Columns(q)
		Kind(asking(), x)
		Kind(api.Table{Keys: n}, x)
	}
}
