package tree

import (
	"math"
	"slices"
	"strings"
	"testing"

	"stillroom/api"
	"stillroom/value"
)

func number(n int) api.Value { return api.Value{Kind: api.Int, Num: n} }

func truth(n int) api.Value { return api.Value{Kind: api.Bool, Num: n} }

func text(s string) api.Value { return api.Value{Kind: api.Text, Text: s} }

// row: of ints.
func row(l ...int) api.Row {
	var out api.Row
	for _, n := range l {
		out = append(out, number(n))
	}
	return out
}

// rowsOf: rows of one int.
func rowsOf(l ...int) []api.Row {
	var out []api.Row
	for _, n := range l {
		out = append(out, row(n))
	}
	return out
}

func sameRows(a, b []api.Row) bool { return slices.EqualFunc(a, b, slices.Equal) }

func sameChanges(a, b []api.Change) bool {
	return slices.EqualFunc(a, b, func(x, y api.Change) bool {
		return x.Table == y.Table && sameRow(x.Old, y.Old) && sameRow(x.New, y.New)
	})
}

// sameRow: the same, a row that is none told from one that is.
func sameRow(a, b api.Row) bool { return (a == nil) == (b == nil) && slices.Equal(a, b) }

// rising: keys, each ahead of the next: of all kinds, of some lengths, some of them what others begin with.
func rising() []api.Row {
	return []api.Row{
		{{}}, {{}, {}}, {{}, truth(1)}, {truth(0)}, {truth(0), number(7)}, {truth(1)},
		row(math.MinInt), row(-1), row(-1, -1), row(-1, 0), row(0), row(0, math.MinInt), row(0, 0), row(0, 0, 0), row(0, 0, 1), row(0, 1), row(1), {number(1), text("")}, {number(1), text("a")}, row(2), row(10), row(math.MaxInt),
		{text("")}, {text(""), {}}, {text("\x00")}, {text("1")}, {text("A")}, {text("a")}, {text("a"), number(-5)}, {text("a"), text("b")}, {text("ab")}, {text("b")}, {text("\xff")}, {text(strings.Repeat("\xff", api.MaxText))},
	}
}

// model: what a tree has, by the place of its keys in a list of rising ones.
type model map[int]api.Row

// rows: of the keys from a place on, at most n.
func (m model) rows(keys, from, n int) []api.Row {
	var out []api.Row
	for at := from; at < keys && len(out) < n; at++ {
		if r := m[at]; r != nil {
			out = append(out, r)
		}
	}
	return out
}

func (m model) diff(to model, keys int) []api.Change {
	var out []api.Change
	for at := range keys {
		if !slices.Equal(m[at], to[at]) {
			out = append(out, api.Change{Old: m[at], New: to[at]})
		}
	}
	return out
}

// same: does a tree answer all that the model says?
func (m model) same(t *testing.T, x *Tree, keys []api.Row) {
	t.Helper()
	sound(t, x)
	all := m.rows(len(keys), 0, len(keys))
	if Len(x) != len(m) || !sameRows(Rows(x), all) {
		t.Fatalf("%d keys, rows %v, want %v", Len(x), Rows(x), all)
	}
	for at, k := range keys {
		if r, ok := Get(x, k); ok != (m[at] != nil) || !sameRow(r, m[at]) {
			t.Fatalf("Get(%v): %v, %v, want %v", k, r, ok, m[at])
		}
		for _, n := range []int{math.MinInt, -1, 0, 1, 2, 3, len(keys), math.MaxInt} {
			if l, want := From(x, k, n), m.rows(len(keys), at, n); !sameRows(l, want) {
				t.Fatalf("From(%v, %d): %v, want %v", k, n, l, want)
			}
		}
	}
}

// P7.1: a nil tree, and one that nothing was put in, are empty.
func TestEmpty(t *testing.T) {
	for _, x := range []*Tree{nil, {}, Delete(nil, row(1)), Delete(&Tree{}, row(1)), Delete(Put(nil, row(1), row(2)), row(1)), Delete(Delete(Put(Put(nil, row(1), row(2)), row(2), row(2)), row(2)), row(1))} {
		if Len(x) != 0 || Height(x) != 0 || len(Rows(x)) != 0 || len(Diff(x, x)) != 0 || len(Diff(nil, x)) != 0 || len(Diff(x, nil)) != 0 {
			t.Errorf("an empty one: %d keys, height %d, rows %v", Len(x), Height(x), Rows(x))
		}
		for _, k := range []api.Row{nil, {}, row(1), row(2), row(1, 2)} {
			if r, ok := Get(x, k); ok || r != nil {
				t.Errorf("Get(%v) of an empty one: %v, %v", k, r, ok)
			}
			for _, n := range []int{math.MinInt, -1, 0, 1, math.MaxInt} {
				if l := From(x, k, n); len(l) != 0 {
					t.Errorf("From(%v, %d) of an empty one: %v", k, n, l)
				}
			}
			if y := Delete(x, k); Len(y) != 0 || Height(y) != 0 {
				t.Errorf("Delete(%v) of an empty one: %d keys", k, Len(y))
			}
		}
		y := Put(x, row(3), row(4))
		if Len(y) != 1 || Height(y) != 1 || !sameRows(Rows(y), rowsOf(4)) || !sameChanges(Diff(x, y), []api.Change{{New: row(4)}}) || !sameChanges(Diff(y, x), []api.Change{{Old: row(4)}}) {
			t.Errorf("Put into an empty one: %d keys, height %d, rows %v", Len(y), Height(y), Rows(y))
		}
	}
}

// P7.1: the chapter's example, in each order in which the rows may come.
func TestExample(t *testing.T) {
	for _, l := range [][]int{{2, 1, 3}, {2, 3, 1}, {1, 2, 3}, {1, 3, 2}, {3, 1, 2}, {3, 2, 1}} {
		var x *Tree
		for _, n := range l {
			x = Put(x, row(n), row(n*10, n))
		}
		if !sameRows(Rows(x), []api.Row{row(10, 1), row(20, 2), row(30, 3)}) || Height(x) != 2 || Len(x) != 3 {
			t.Errorf("Puts at %v: rows %v, height %d", l, Rows(x), Height(x))
		}
	}
}

// common: the greatest number that divides both.
func common(a, b int) int {
	for b > 0 {
		a, b = b, a%b
	}
	return a
}

// P7.1: keys of all kinds and lengths, put and deleted in many orders.
func TestKeys(t *testing.T) {
	keys := rising()
	for step := 1; step < len(keys); step++ {
		if common(step, len(keys)) > 1 {
			continue // It doesn't come by all of them.
		}
		var x *Tree
		m := model{}
		for n := range keys {
			at := (n*step + step) % len(keys)
			x, m[at] = Put(x, keys[at], row(n, at)), row(n, at)
			m.same(t, x, keys)
		}
		for n := range keys {
			at := (n*step + 5) % len(keys)
			x = Delete(x, keys[at])
			delete(m, at)
			m.same(t, x, keys)
		}
	}
}

// P7.1: a Put in the place of what was there; a Delete of what isn't there.
func TestPlace(t *testing.T) {
	keys := rising()
	var x *Tree
	m := model{}
	for at := 0; at < len(keys); at += 2 {
		x, m[at] = Put(x, keys[at], keys[at]), keys[at]
	}
	height := Height(x)
	for at := range keys {
		if at%2 == 1 {
			y := Delete(x, keys[at])
			m.same(t, y, keys)
			continue
		}
		for _, r := range []api.Row{row(at), keys[at], {{}}, {number(at), text("x"), {}, truth(1)}} {
			x, m[at] = Put(x, keys[at], r), r
			m.same(t, x, keys)
			if Height(x) != height {
				t.Errorf("a Put in a place: height %d, was %d", Height(x), height)
			}
		}
	}
}

// P7.1: From and Get, of keys ahead of, between and behind those that are there.
func TestFrom(t *testing.T) {
	var x *Tree
	for n := range 50 {
		x = Put(x, row(n*17%50*2), row(n*17%50*2))
	}
	for k := -3; k < 103; k++ {
		if r, ok := Get(x, row(k)); ok != (k >= 0 && k < 100 && k%2 == 0) || ok && !slices.Equal(r, row(k)) {
			t.Errorf("Get(%d): %v, %v", k, r, ok)
		}
		for _, n := range []int{math.MinInt, -7, 0, 1, 2, 10, 49, 50, 51, math.MaxInt} {
			var want, behind []int
			for at := range 50 {
				if at*2 >= k && len(want) < n {
					want = append(want, at*2)
				}
				if at*2 > k && len(behind) < n {
					behind = append(behind, at*2)
				}
			}
			if l := From(x, row(k), n); !sameRows(l, rowsOf(want...)) {
				t.Errorf("From(%d, %d): %v", k, n, l)
			}
			if l := From(x, row(k, math.MinInt), n); !sameRows(l, rowsOf(behind...)) {
				t.Errorf("From(%d and more, %d): %v", k, n, l)
			}
		}
	}
	for _, k := range []api.Row{nil, {}, {{}}, {truth(1)}} {
		if l := From(x, k, 1000); !sameRows(l, Rows(x)) || len(l) != 50 {
			t.Errorf("From(%v): %v", k, l)
		}
	}
	if l := From(x, api.Row{text("")}, 1000); len(l) != 0 {
		t.Errorf("From a text on: %v", l)
	}
}

// P7.1: Diff of any two of all trees of up to four keys and two rows, those made apart, and those made of one another.
func TestDiff(t *testing.T) {
	keys := []api.Row{row(1), row(1, 0), row(2), {text("a")}}
	var models []model
	var trees []*Tree
	for code := range 81 {
		var x *Tree
		m := model{}
		for at := range keys {
			if had := code % 3; had > 0 {
				x, m[at] = Put(x, keys[at], row(had)), row(had)
			}
			code /= 3
		}
		models, trees = append(models, m), append(trees, x)
	}
	for i, from := range models {
		for j, to := range models {
			want := from.diff(to, len(keys))
			if d := Diff(trees[i], trees[j]); !sameChanges(d, want) {
				t.Fatalf("Diff of %v and %v: %v", from, to, d)
			}
			x := trees[i]
			for at := range keys {
				if r := to[at]; r != nil {
					x = Put(x, keys[at], r)
				} else {
					x = Delete(x, keys[at])
				}
			}
			if d := Diff(trees[i], x); !sameChanges(d, want) {
				t.Fatalf("Diff of %v and what %v was made of it: %v", from, to, d)
			}
			if d := Diff(x, trees[j]); len(d) != 0 {
				t.Fatalf("Diff of two that have %v: %v", to, d)
			}
		}
	}
}

// P7.1: Diff of greater ones: of other shapes with the same rows, of rows that differ at their end alone, of one that ends ahead of the other.
func TestDiffGreat(t *testing.T) {
	var up, down, other *Tree
	var changed, gone, come []api.Change
	for n := range 300 {
		up, down = Put(up, row(n), row(n, 0)), Put(down, row(299-n), row(299-n, 0))
	}
	for n := range 300 {
		was, is := row(n, 0), row(n)
		switch n % 4 {
		case 1:
			is = row(n, 0, 0)
		case 2:
			is = row(n, 1)
		case 3:
			is = was
		}
		other = Put(other, row(n), is)
		if n%4 != 3 {
			changed = append(changed, api.Change{Old: was, New: is})
		}
		gone, come = append(gone, api.Change{Old: was}), append(come, api.Change{New: was})
	}
	for _, x := range []*Tree{up, down} {
		for _, c := range []struct {
			from, to *Tree
			want     []api.Change
		}{{x, up, nil}, {down, x, nil}, {x, other, changed}, {x, nil, gone}, {nil, x, come}, {&Tree{}, x, come}} {
			if d := Diff(c.from, c.to); !sameChanges(d, c.want) {
				t.Errorf("Diff: %v, want %v", d, c.want)
			}
		}
	}
	half := up
	for n := range 150 {
		half = Delete(half, row(n*2))
	}
	var odd []api.Change
	for n := range 150 {
		odd = append(odd, gone[n*2])
	}
	if d := Diff(up, half); !sameChanges(d, odd) {
		t.Errorf("Diff of all and half: %v", d)
	}
	if d := Diff(up, firstOf(up, 100)); !sameChanges(d, gone[100:]) {
		t.Errorf("Diff of all and the first: %v", d)
	}
}

// firstOf: a tree without the keys from n on.
func firstOf(x *Tree, n int) *Tree {
	for at := n; at < 300; at++ {
		x = Delete(x, row(at))
	}
	return x
}

// P9: no call panics, of keys and rows that aren't good, or empty, either.
func TestWrong(t *testing.T) {
	keys := []api.Row{nil, {}, {{Kind: 9}}, {{Kind: -1}}, {{Num: 3, Text: "a"}}, {text(strings.Repeat("x", 1000))}, make(api.Row, 500), {truth(math.MinInt)}, row(1)}
	var x *Tree
	for _, k := range keys {
		for _, r := range keys {
			x = Put(x, k, r)
		}
		sound(t, x)
	}
	distinct := slices.CompactFunc(slices.SortedFunc(slices.Values(keys), value.Rows), func(a, b api.Row) bool { return value.Rows(a, b) == 0 })
	if Len(x) != len(distinct) || len(Rows(x)) != len(distinct) || len(Diff(x, nil)) != len(distinct) {
		t.Errorf("%d keys, want %d", Len(x), len(distinct))
	}
	for _, k := range keys {
		if _, ok := Get(x, k); !ok {
			t.Errorf("Get(%v): none", k)
		}
		From(x, k, math.MaxInt)
		Diff(x, Delete(x, k))
	}
	for _, k := range keys {
		x = Delete(x, k)
		sound(t, x)
	}
	if Len(x) != 0 {
		t.Errorf("%d keys are left", Len(x))
	}
}
