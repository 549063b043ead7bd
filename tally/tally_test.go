package tally

import (
	"math"
	"slices"
	"strings"
	"testing"

	"stillroom/api"
)

const (
	most  = math.MaxInt
	least = math.MinInt
)

func num(n int) api.Value { return api.Value{Kind: api.Int, Num: n} }

func text(s string) api.Value { return api.Value{Kind: api.Text, Text: s} }

func truth(n int) api.Value { return api.Value{Kind: api.Bool, Num: n} }

// asking: a table with columns of each kind, that may be null but for the key.
func asking() api.Table {
	return api.Table{Name: "t", Keys: 1, Columns: []api.Column{
		{Name: "a", Kind: api.Int}, {Name: "b", Kind: api.Text, Null: true}, {Name: "c", Kind: api.Int, Null: true}, {Name: "d", Kind: api.Bool, Null: true},
	}}
}

// rows: of the values of c.
func rows(l ...api.Value) []api.Row {
	var out []api.Row
	for n, v := range l {
		out = append(out, api.Row{num(n), {}, v, {}})
	}
	return out
}

// by: items of columns.
func by(l ...string) []api.Item {
	var out []api.Item
	for n, name := range l {
		out = append(out, api.Item{Column: name, At: 7 * n})
	}
	return out
}

// some: rows of each kind of value.
func some() []api.Row {
	return []api.Row{
		{num(3), text("y"), num(5), truth(1)}, {num(1), {}, num(-5), {}}, {num(2), text(""), {}, truth(0)}, {num(-4), text("y"), num(7), truth(1)}, {num(9), text("ab"), {}, {}},
	}
}

// tell: what an aggregate of rows is, in any order of them.
func tell(t *testing.T, agg api.Agg, column string, l []api.Row, want api.Value, e api.Errno) {
	t.Helper()
	l = slices.Clone(l)
	for range 2 {
		for range max(1, len(l)) {
			if got, f := Of(asking(), api.Item{Agg: agg, Column: column, At: 3}, l); got != want || f != e {
				t.Errorf("Of aggregate %d of %q of %v: %v, %d, want %v, %d", agg, column, l, got, f, want, e)
			}
			if len(l) > 0 {
				l = append(l[1:], l[0])
			}
		}
		slices.Reverse(l)
	}
}

// P17.1: each aggregate of each kind of column, nulls among the values.
func TestOf(t *testing.T) {
	for _, c := range []struct {
		column               string
		count                int
		sum, smallest, great api.Value
	}{
		{"a", 5, num(11), num(-4), num(9)},
		{"b", 4, api.Value{}, text(""), text("y")},
		{"c", 3, num(7), num(-5), num(7)},
		{"d", 3, api.Value{}, truth(0), truth(1)},
	} {
		tell(t, api.Count, c.column, some(), num(c.count), api.OK)
		tell(t, api.Min, c.column, some(), c.smallest, api.OK)
		tell(t, api.Max, c.column, some(), c.great, api.OK)
		if c.sum.Kind == api.Int {
			tell(t, api.Sum, c.column, some(), c.sum, api.OK)
		}
	}
	tell(t, api.Rows, "", some(), num(5), api.OK)
	tell(t, api.Rows, "", rows(api.Value{}, api.Value{}, api.Value{}), num(3), api.OK)
}

// P17.1: of no rows, and of rows whose values are null.
func TestNone(t *testing.T) {
	for _, l := range [][]api.Row{nil, {}, rows(api.Value{}), rows(api.Value{}, api.Value{})} {
		tell(t, api.Rows, "", l, num(len(l)), api.OK)
		tell(t, api.Count, "c", l, num(0), api.OK)
		for _, agg := range []api.Agg{api.Sum, api.Min, api.Max} {
			tell(t, agg, "c", l, api.Value{}, api.OK)
		}
	}
	l := rows(num(0), api.Value{}, num(0))
	tell(t, api.Sum, "c", l, num(0), api.OK)
	tell(t, api.Min, "c", l, num(0), api.OK)
	tell(t, api.Max, "c", l, num(0), api.OK)
	// Values below all that a null might be taken for.
	l = rows(api.Value{}, num(-8), api.Value{}, num(-9))
	tell(t, api.Sum, "c", l, num(-17), api.OK)
	tell(t, api.Min, "c", l, num(-9), api.OK)
	tell(t, api.Max, "c", l, num(-8), api.OK)
}

// P17.1: sums at the edges of 64 bits, in any order.
func TestSum(t *testing.T) {
	for _, c := range []struct {
		l    []int
		want int
		e    api.Errno
	}{
		{[]int{most, 1, -1}, most, api.OK}, {[]int{most, 1}, 0, api.ErrOver}, {[]int{most}, most, api.OK}, {[]int{most, 0}, most, api.OK},
		{[]int{least}, least, api.OK}, {[]int{least, -1}, 0, api.ErrOver}, {[]int{least, -1, 1}, least, api.OK}, {[]int{least, most}, -1, api.OK},
		{[]int{least, least}, 0, api.ErrOver}, {[]int{least, least, most, most}, -2, api.OK}, {[]int{most, most, most}, 0, api.ErrOver},
		{[]int{most, most, 2}, 0, api.ErrOver}, {[]int{least, least, least, least}, 0, api.ErrOver}, {[]int{1 << 62, 1 << 62}, 0, api.ErrOver}, {[]int{-1 << 62, -1 << 62}, least, api.OK},
	} {
		want := num(c.want)
		if c.e != api.OK {
			want = api.Value{}
		}
		var l []api.Value
		for _, n := range c.l {
			l = append(l, num(n), api.Value{})
		}
		tell(t, api.Sum, "c", rows(l...), want, c.e)
		tell(t, api.Count, "c", rows(l...), num(len(c.l)), api.OK)
		tell(t, api.Min, "c", rows(l...), num(slices.Min(c.l)), api.OK)
		tell(t, api.Max, "c", rows(l...), num(slices.Max(c.l)), api.OK)
	}
}

// P17.1: the least and the greatest go by the order of chapter 1: texts byte by byte.
func TestLeast(t *testing.T) {
	long := strings.Repeat("\xff", api.MaxText)
	l := []api.Row{{num(0), text("b")}, {num(1), text("a\x00")}, {num(2), text("a")}, {num(3), {}}, {num(4), text("é")}, {num(5), text("Z")}}
	tell(t, api.Min, "b", l, text("Z"), api.OK)
	tell(t, api.Max, "b", l, text("é"), api.OK)
	tell(t, api.Min, "b", l[1:4], text("a"), api.OK)
	tell(t, api.Max, "b", l[1:4], text("a\x00"), api.OK)
	l[2][1], l[3][1] = text(""), text(long)
	tell(t, api.Min, "b", l, text(""), api.OK)
	tell(t, api.Max, "b", l, text(long), api.OK)
}

// P17.1: which column is meant hangs on its name in the table that is handed in.
func TestTable(t *testing.T) {
	x := api.Table{Name: "u", Keys: 1, Columns: []api.Column{{Name: "c", Kind: api.Text}, {Name: "a", Kind: api.Int, Null: true}}}
	l := []api.Row{{text("q"), num(4)}, {text("p"), num(4)}, {text("r"), {}}}
	for agg, want := range map[api.Agg]api.Value{api.Rows: num(3), api.Count: num(2), api.Sum: num(8), api.Min: num(4), api.Max: num(4)} {
		if got, e := Of(x, api.Item{Agg: agg, Column: "a"}, l); got != want || e != api.OK {
			t.Errorf("Of aggregate %d: %v, %d, want %v", agg, got, e, want)
		}
	}
	grouped(t, Groups(x, by("a"), l), []Group{{api.Row{{}}, l[2:]}, {api.Row{num(4)}, l[:2]}})
}

// grouped: are the groups those that are wanted?
func grouped(t *testing.T, got, want []Group) {
	t.Helper()
	same := func(a, b Group) bool {
		return slices.Equal(a.Key, b.Key) && slices.EqualFunc(a.Rows, b.Rows, slices.Equal)
	}
	if !slices.EqualFunc(got, want, same) {
		t.Errorf("Groups: %v, want %v", got, want)
	}
}

// P17.1: groups in the order of their keys, nulls as one of them; rows as they came.
func TestGroups(t *testing.T) {
	l := some()
	pick := func(key api.Row, numbers ...int) Group {
		g := Group{Key: key}
		for _, n := range numbers {
			g.Rows = append(g.Rows, l[n])
		}
		return g
	}
	for _, c := range []struct {
		by   []api.Item
		want []Group
	}{
		{by("b"), []Group{pick(api.Row{{}}, 1), pick(api.Row{text("")}, 2), pick(api.Row{text("ab")}, 4), pick(api.Row{text("y")}, 0, 3)}},
		{by("c"), []Group{pick(api.Row{{}}, 2, 4), pick(api.Row{num(-5)}, 1), pick(api.Row{num(5)}, 0), pick(api.Row{num(7)}, 3)}},
		{by("d"), []Group{pick(api.Row{{}}, 1, 4), pick(api.Row{truth(0)}, 2), pick(api.Row{truth(1)}, 0, 3)}},
		{by("a"), []Group{pick(api.Row{num(-4)}, 3), pick(api.Row{num(1)}, 1), pick(api.Row{num(2)}, 2), pick(api.Row{num(3)}, 0), pick(api.Row{num(9)}, 4)}},
		{by("d", "b"), []Group{pick(api.Row{{}, {}}, 1), pick(api.Row{{}, text("ab")}, 4), pick(api.Row{truth(0), text("")}, 2), pick(api.Row{truth(1), text("y")}, 0, 3)}},
		{by("b", "d"), []Group{pick(api.Row{{}, {}}, 1), pick(api.Row{text(""), truth(0)}, 2), pick(api.Row{text("ab"), {}}, 4), pick(api.Row{text("y"), truth(1)}, 0, 3)}},
		{nil, []Group{pick(nil, 0, 1, 2, 3, 4)}},
		{by(), []Group{pick(nil, 0, 1, 2, 3, 4)}},
	} {
		grouped(t, Groups(asking(), c.by, l), c.want)
	}
	grouped(t, Groups(asking(), by("d"), []api.Row{l[3], l[0], l[3]}), []Group{pick(api.Row{truth(1)}, 3, 0, 3)})
}

// P17.1: of no rows: without columns one group, with columns none.
func TestNoGroups(t *testing.T) {
	for _, l := range [][]api.Row{nil, {}} {
		grouped(t, Groups(asking(), nil, l), []Group{{}})
		grouped(t, Groups(asking(), by(), l), []Group{{}})
		grouped(t, Groups(asking(), by("b"), l), nil)
		grouped(t, Groups(asking(), by("b", "a"), l), nil)
	}
}

// P17.1: what is the same in keys is the same value, of the same kind, column by column.
func TestKeys(t *testing.T) {
	row := func(n int, b, c api.Value) api.Row { return api.Row{num(n), b, c, {}} }
	none := api.Value{}
	l := []api.Row{row(0, text("1"), num(1)), row(1, text("1"), none), row(2, text(""), num(1)), row(3, none, num(1)), row(4, text("1\x00"), num(1)), row(5, none, none), row(6, text(""), none), row(7, none, num(0))}
	var want []Group
	for _, n := range []int{5, 7, 3, 6, 2, 1, 0, 4} {
		want = append(want, Group{l[n][1:3], l[n : n+1]})
	}
	grouped(t, Groups(asking(), by("b", "c"), l), want)
}

// P9: lists that are long.
func TestVast(t *testing.T) {
	const many = 200000
	var l []api.Row
	for n := range many {
		l = append(l, api.Row{num(-n), text(strings.Repeat("x", n%3)), num(most), truth(n % 2)})
	}
	tell := func(agg api.Agg, column string, want api.Value, e api.Errno) {
		if got, f := Of(asking(), api.Item{Agg: agg, Column: column}, l); got != want || f != e {
			t.Errorf("Of aggregate %d of %q: %v, %d, want %v, %d", agg, column, got, f, want, e)
		}
	}
	tell(api.Rows, "", num(many), api.OK)
	tell(api.Sum, "a", num(-many*(many-1)/2), api.OK)
	tell(api.Sum, "c", api.Value{}, api.ErrOver)
	tell(api.Min, "a", num(1-many), api.OK)
	tell(api.Max, "a", num(0), api.OK)
	if got := Groups(asking(), by("a"), l); len(got) != many || !slices.Equal(got[0].Rows[0], l[many-1]) {
		t.Errorf("Groups by the key: %d", len(got))
	}
	if got := Groups(asking(), by("b", "d"), l); len(got) != 6 || !slices.Equal(got[5].Rows[1], l[11]) {
		t.Errorf("Groups by two columns: %d", len(got))
	}
}

// P9: of what isn't promised each call ends, and doesn't panic; beside an error there is no value (R3).
func TestOdd(t *testing.T) {
	twice := asking()
	twice.Columns[3].Name = "a"
	odd := []api.Row{nil, {}, {num(1)}, {{Kind: 9, Num: most, Text: "x"}, {Kind: -1}}, {text("x"), num(3), truth(7), {Num: 5}, num(1), num(1)}, {num(most), num(most), num(most), num(most)}}
	for _, x := range []api.Table{asking(), {}, {Columns: []api.Column{{}, {Name: "c", Kind: 9}}}, twice} {
		for _, l := range [][]api.Row{nil, odd, odd[:2], append(some(), odd...)} {
			for _, name := range []string{"a", "d", "z", ""} {
				for _, agg := range []api.Agg{least, -1, api.Plain, api.Rows, api.Count, api.Sum, api.Min, api.Max, 6, most} {
					got, e := Of(x, api.Item{Agg: agg, Column: name}, l)
					if e != api.OK && (e != api.ErrOver || agg != api.Sum || got != (api.Value{})) {
						t.Errorf("Of aggregate %d: %v, %d", agg, got, e)
					}
				}
				rows := 0
				for _, g := range Groups(x, append(by(name, name), api.Item{Agg: api.Sum, Column: "a"}), l) {
					rows += len(g.Rows)
				}
				if rows != len(l) {
					t.Errorf("Groups of %d rows have %d", len(l), rows)
				}
			}
		}
	}
	if got, e := Of(asking(), api.Item{Agg: api.Count, Column: "z"}, some()); got != num(0) || e != api.OK {
		t.Errorf("COUNT of no column: %v, %d", got, e)
	}
	if got, e := Of(asking(), api.Item{Column: "a"}, some()); got != (api.Value{}) || e != api.OK {
		t.Errorf("Of no aggregate: %v, %d", got, e)
	}
}
