package schema

import (
	"math"
	"slices"
	"strings"
	"testing"

	"stillroom/api"
)

func column(name string, k api.Kind, null bool) api.Column {
	return api.Column{Name: name, Kind: k, Null: null}
}

func number(n int) api.Value { return api.Value{Kind: api.Int, Num: n} }

func truth(n int) api.Value { return api.Value{Kind: api.Bool, Num: n} }

func text(s string) api.Value { return api.Value{Kind: api.Text, Text: s} }

// items: a table of five columns, two of them its key.
func items() api.Table {
	return api.Table{Name: "items", Keys: 2, Columns: []api.Column{
		column("shop", api.Text, false), column("no", api.Int, false), column("sold", api.Bool, true), column("price", api.Int, true), column("note", api.Text, false),
	}}
}

// small: the example's table: a (Int, the key) and b (Text, may be null).
func small() api.Table {
	return api.Table{Name: "small", Keys: 1, Columns: []api.Column{column("a", api.Int, false), column("b", api.Text, true)}}
}

// sameTable: of the same name, columns and key.
func sameTable(a, b api.Table) bool {
	return a.Name == b.Name && a.Keys == b.Keys && slices.Equal(a.Columns, b.Columns)
}

// some: values of all kinds, at their edges.
func some() []api.Value {
	return []api.Value{
		{}, truth(0), truth(1), number(0), number(1), number(-1), number(math.MaxInt), number(math.MinInt),
		text(""), text("a"), text("\x00\xff"), text(strings.Repeat("x", api.MaxText)),
	}
}

// bad: what looks like values, of each kind and of none, and isn't good.
func bad() []api.Value {
	return []api.Value{
		{Num: 1}, {Text: "a"}, truth(2), truth(-1), truth(math.MinInt), {Kind: api.Bool, Num: 1, Text: "a"}, {Kind: api.Int, Text: "a"}, {Kind: api.Int, Num: 7, Text: "7"},
		text(strings.Repeat("x", api.MaxText+1)), {Kind: api.Text, Num: 1}, {Kind: api.Text, Num: 1, Text: "a"}, {Kind: 4}, {Kind: -1}, {Kind: math.MaxInt}, {Kind: math.MinInt, Num: 1},
	}
}

// P6.1: Name, of one and two bytes of each kind.
func TestNameBytes(t *testing.T) {
	for x := range 256 {
		c := byte(x)
		s := string([]byte{c})
		small := c >= 'a' && c <= 'z'
		behind := small || c >= '0' && c <= '9' || c == '_'
		for name, want := range map[string]bool{
			s: small, s + "a": small, s + "_": small, s + "7": small, "a" + s: behind, "a" + s + "b": behind, "zz_9" + s: behind,
			strings.Repeat("q", api.MaxName-1) + s: behind, strings.Repeat("q", api.MaxName) + s: false, "_" + s: false, "0" + s: false,
		} {
			if got := Name(name); got != want {
				t.Errorf("Name(%q): %v, want %v", name, got, want)
			}
		}
	}
}

// P6.1: Name, by how long it is, and of what isn't one.
func TestNameLong(t *testing.T) {
	for n := range 3 * api.MaxName {
		for _, c := range []string{"a", "z"} {
			if got := Name(strings.Repeat(c, n)); got != (n >= 1 && n <= 20) {
				t.Errorf("Name of %d times %s: %v", n, c, got)
			}
		}
	}
	for _, s := range []string{"", " ", "a ", " a", "a b", "A", "aB", "Items", "9a", "_", "__a", "a-b", "a.b", "a'", "é", "aé", "а", "a\n", "a\x00", "\xff", "a\xff", "ａ", "a" + strings.Repeat("é", 10)} {
		if Name(s) {
			t.Errorf("Name(%q): true", s)
		}
	}
	for _, s := range []string{"a", "z", "m", "a_", "a__", "a0", "a9", "z9_", "items", "select", "null", "a_long_name_of_20_oct"[:20]} {
		if !Name(s) {
			t.Errorf("Name(%q): false", s)
		}
	}
}

// P6.1: Find; the first table of a name counts, whatever stands in the list.
func TestFind(t *testing.T) {
	other := items()
	other.Name, other.Keys = "other", 5
	again := small()
	again.Keys = 2
	odd := api.Table{Name: "No name", Keys: -3}
	l := []api.Table{items(), small(), other, again, odd, {}}
	for name, want := range map[string]api.Table{"items": items(), "small": small(), "other": other, "No name": odd, "": {}} {
		if got, e := Find(l, name); e != api.OK || !sameTable(got, want) {
			t.Errorf("Find(%q): %v, %d", name, got, e)
		}
	}
	for _, name := range []string{"", "item", "items_", "itemsx", "Items", "shop", "no name", strings.Repeat("a", 100), "\xff"} {
		if got, e := Find(l[:5], name); e != api.ErrTable || !sameTable(got, api.Table{}) {
			t.Errorf("Find(%q): %v, %d", name, got, e)
		}
		for _, none := range [][]api.Table{nil, {}} {
			if _, e := Find(none, name); e != api.ErrTable {
				t.Errorf("Find(%q) among none: %d", name, e)
			}
		}
	}
	many := make([]api.Table, 20)
	for n := range many {
		many[n] = small()
		many[n].Name = strings.Repeat("t", n+1)
	}
	for n := range many {
		if got, e := Find(many, many[n].Name); e != api.OK || got.Name != many[n].Name {
			t.Errorf("Find of table %d: %v, %d", n, got, e)
		}
	}
}

// P6.1: Column; the first column of a name counts.
func TestColumn(t *testing.T) {
	table := items()
	for n, name := range []string{"shop", "no", "sold", "price", "note"} {
		if got, e := Column(table, name); e != api.OK || got != n {
			t.Errorf("Column(%q): %d, %d", name, got, e)
		}
	}
	for _, name := range []string{"", "s", "sho", "shop_", "shops", "Shop", "items", "notes", strings.Repeat("a", 100)} {
		if got, e := Column(table, name); e != api.ErrColumn || got != 0 {
			t.Errorf("Column(%q): %d, %d", name, got, e)
		}
		for _, none := range [][]api.Column{nil, {}} {
			if got, e := Column(api.Table{Name: "t", Columns: none, Keys: 1}, name); e != api.ErrColumn || got != 0 {
				t.Errorf("Column(%q) among none: %d, %d", name, got, e)
			}
		}
	}
	twice := api.Table{Columns: []api.Column{{}, column("a", 0, false), column("b", 1, true), column("a", 2, true), column("b", 3, true), {}}}
	for name, want := range map[string]int{"": 0, "a": 1, "b": 2} {
		if got, e := Column(twice, name); e != api.OK || got != want {
			t.Errorf("Column(%q) of two: %d, %d", name, got, e)
		}
	}
}

// P6.1: Row, by each value in each column; a null just where it may be.
func TestRow(t *testing.T) {
	table := items()
	right := api.Row{text("x"), number(7), truth(1), number(-3), text("")}
	if e := Row(table, right); e != api.OK {
		t.Fatalf("Row of a right one: %d", e)
	}
	kinds := []api.Kind{api.Text, api.Int, api.Bool, api.Int, api.Text}
	for at, k := range kinds {
		for _, v := range some() {
			r := slices.Clone(right)
			r[at] = v
			want := api.ErrRow
			if v.Kind == k || v.Kind == api.Null && (at == 2 || at == 3) {
				want = api.OK
			}
			if e := Row(table, r); e != want {
				t.Errorf("Row of %v at %d: %d, want %d", v, at, e, want)
			}
		}
		for _, v := range bad() {
			r := slices.Clone(right)
			r[at] = v
			if e := Row(table, r); e != api.ErrRow {
				t.Errorf("Row of %v at %d: %d", v, at, e)
			}
		}
	}
	if e := Row(table, api.Row{text(""), number(0), {}, {}, text("")}); e != api.OK {
		t.Errorf("Row with all nulls that may be: %d", e)
	}
}

// P6.1: Row, by how many values there are, and the chapter's example.
func TestRowLong(t *testing.T) {
	right := api.Row{text("x"), number(7), truth(1), number(-3), text(""), number(1), {}, {}, {}, {}}
	for n := range right {
		want := api.ErrRow
		if n == 5 {
			want = api.OK
		}
		if e := Row(items(), right[:n]); e != want {
			t.Errorf("Row of %d values: %d, want %d", n, e, want)
		}
	}
	for _, c := range []struct {
		r    api.Row
		want api.Errno
	}{
		{api.Row{number(1), {}}, api.OK}, {api.Row{number(1), text("")}, api.OK}, {api.Row{{}, {}}, api.ErrRow}, {api.Row{{}, text("")}, api.ErrRow},
		{api.Row{number(1)}, api.ErrRow}, {api.Row{number(1), {}, {}}, api.ErrRow}, {api.Row{}, api.ErrRow}, {nil, api.ErrRow}, {api.Row{text("1"), {}}, api.ErrRow},
		{api.Row{text("x"), number(1)}, api.ErrRow}, {make(api.Row, 300), api.ErrRow},
	} {
		if e := Row(small(), c.r); e != c.want {
			t.Errorf("Row(%v): %d, want %d", c.r, e, c.want)
		}
	}
}

// P6.1: Key: as many values as Keys, each of its column's kind.
func TestKey(t *testing.T) {
	all := append(some(), bad()...)
	good := some()
	for _, v := range all {
		for _, w := range all {
			want := api.ErrRow
			if v.Kind == api.Text && w.Kind == api.Int && slices.Contains(good, v) && slices.Contains(good, w) {
				want = api.OK
			}
			if e := Key(items(), api.Row{v, w}); e != want {
				t.Errorf("Key(%v, %v): %d, want %d", v, w, e, want)
			}
		}
	}
	row := api.Row{text("x"), number(7), truth(1), number(-3), text("")}
	for keys := 1; keys <= len(row); keys++ {
		table := items()
		table.Columns[2].Null, table.Columns[3].Null = keys < 3, keys < 4
		table.Keys = keys
		for n := range len(row) + 1 {
			want := api.ErrRow
			if n == keys {
				want = api.OK
			}
			if e := Key(table, row[:n]); e != want {
				t.Errorf("Key of %d values for %d: %d, want %d", n, keys, e, want)
			}
		}
	}
	for _, none := range []api.Row{nil, {}, {{}}, {{}, {}}, {number(7), text("x")}} {
		if e := Key(items(), none); e != api.ErrRow {
			t.Errorf("Key(%v): %d", none, e)
		}
	}
}

// P6.1: Of: the first Keys values, which are a key.
func TestOf(t *testing.T) {
	row := api.Row{text("x"), number(7), truth(1), number(-3), text("")}
	for keys := 1; keys <= len(row); keys++ {
		table := items()
		table.Columns[2].Null, table.Columns[3].Null = keys < 3, keys < 4
		table.Keys = keys
		k := Of(table, row)
		if !slices.Equal(k, row[:keys]) || Key(table, k) != api.OK {
			t.Errorf("Of, of %d: %v", keys, k)
		}
	}
	if k := Of(small(), api.Row{number(5), {}}); !slices.Equal(k, api.Row{number(5)}) {
		t.Errorf("Of the example's: %v", k)
	}
}

// P9: no call panics, of tables and rows that are none either.
func TestWrongTables(t *testing.T) {
	for _, keys := range []int{math.MinInt, -1, 0, 1, 2, 3, math.MaxInt} {
		for _, columns := range [][]api.Column{nil, {}, {{}}, small().Columns, items().Columns} {
			table := api.Table{Keys: keys, Columns: columns}
			for n := range 7 {
				r := make(api.Row, n)
				Row(table, r)
				Key(table, r)
				if k := Of(table, r); len(k) > n {
					t.Errorf("Of %d values, %d keys: %v", n, keys, k)
				}
			}
			Column(table, "")
			Check([]api.Table{table, table})
			Find([]api.Table{table, table}, "")
		}
	}
}

// roomy: a copy of a list, with room behind it that holds spare.
func roomy[T any](l []T, spare T) []T {
	return append(slices.Grow(slices.Clone(l), 3), spare, spare, spare)[:len(l)]
}

// wide: all of a list, its spare room too.
func wide[T any](l []T) []T { return l[:cap(l)] }

// fill overwrites a list, and its spare room.
func fill[T any](l []T, v T) {
	for n := range wide(l) {
		wide(l)[n] = v
	}
}

// P6.2: what is handed in stays, spare room too; and goes with no answer.
func TestStays(t *testing.T) {
	columns := roomy(items().Columns, column("spare", api.Bool, true))
	table := items()
	table.Columns = columns
	l := roomy([]api.Table{small(), table}, api.Table{Name: "spare"})
	r := roomy(api.Row{text("x"), number(7), truth(1), {}, text("")}, number(99))
	wasColumns, wasTables, wasRow := slices.Clone(wide(columns)), slices.Clone(wide(l)), slices.Clone(wide(r))
	Check(l)
	Column(table, "no")
	Row(table, r)
	Key(table, r[:2])
	found, _ := Find(l, "items")
	fill(found.Columns, column("gone", 0, true))
	fill(Of(table, r), number(13))
	for n, was := range wasTables {
		if !sameTable(wide(l)[n], was) {
			t.Errorf("table %d that was handed in is now %v", n, wide(l)[n])
		}
	}
	if !slices.Equal(wide(columns), wasColumns) || !slices.Equal(wide(r), wasRow) {
		t.Errorf("columns and a row that were handed in are now %v, %v", wide(columns), wide(r))
	}
}

// P6.2: what is answered stays, when what was handed in, or another answer, goes.
func TestApart(t *testing.T) {
	l := []api.Table{small(), items()}
	r := api.Row{text("x"), number(7), truth(1), {}, text("")}
	first, _ := Find(l, "items")
	second, _ := Find(l, "items")
	one, two := Of(first, r), Of(first, r)
	fill(l[1].Columns, api.Column{})
	fill(r, api.Value{})
	if !sameTable(first, items()) || !slices.Equal(one, api.Row{text("x"), number(7)}) {
		t.Errorf("with what was handed in go: %v, %v", first, one)
	}
	fill(first.Columns, api.Column{})
	fill(one, api.Value{})
	if !sameTable(second, items()) || !slices.Equal(two, api.Row{text("x"), number(7)}) {
		t.Errorf("with other answers go: %v, %v", second, two)
	}
}
