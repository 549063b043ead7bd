package order

import (
	"math"
	"reflect"
	"slices"
	"testing"

	"stillroom/api"
)

const (
	most  = math.MaxInt
	least = math.MinInt
)

var null api.Value

func num(n int) api.Value { return api.Value{Kind: api.Int, Num: n} }

func text(s string) api.Value { return api.Value{Kind: api.Text, Text: s} }

func truth(n int) api.Value { return api.Value{Kind: api.Bool, Num: n} }

// rising: values of all kinds, in order.
func rising() []api.Value {
	return []api.Value{null, truth(0), truth(1), num(least), num(-1), num(0), num(1), num(most), text(""), text("\x00"), text("10"), text("9"), text("a"), text("a\x00"), text("aa"), text("b"), text("\xff")}
}

// line: of a number, which is all that is answered of it, of a tie, and of keys.
func line(n int, tie api.Row, keys ...api.Value) Line {
	return Line{keys, tie, api.Row{num(n)}}
}

// numbers: of lines.
func numbers(l []Line) []int {
	out := []int{}
	for _, x := range l {
		out = append(out, x.Out[0].Num)
	}
	return out
}

// compared: how two lines are, seen from both, and each from itself.
func compared(t *testing.T, falls []bool, a, b Line, want int) {
	t.Helper()
	for _, c := range []struct {
		a, b Line
		want int
	}{{a, b, want}, {b, a, -want}, {a, a, 0}, {b, b, 0}} {
		if got := Compare(falls, c.a, c.b); got != c.want {
			t.Errorf("Compare(%v, %v, %v): %d, want %d", falls, c.a, c.b, got, c.want)
		}
	}
}

// P18.1: the first of Keys that differ decide, each in its direction; then Tie does, in none.
func TestCompare(t *testing.T) {
	up, down := []bool{false, false, false}, []bool{true, true, true}
	one, two := api.Row{num(1)}, api.Row{num(2)}
	for _, c := range []struct {
		falls []bool
		a, b  Line
		want  int
	}{
		{up, line(1, two, num(1), num(5), num(5)), line(2, one, num(2), num(4), num(4)), -1},
		{up, line(1, two, num(1), num(4), num(5)), line(2, one, num(1), num(5), num(4)), -1},
		{up, line(1, two, num(1), num(4), num(4)), line(2, one, num(1), num(4), num(5)), -1},
		{down, line(1, two, num(1), num(5), num(5)), line(2, one, num(2), num(4), num(4)), 1},
		{down, line(1, two, num(1), num(4), num(5)), line(2, one, num(1), num(5), num(4)), 1},
		{down, line(1, one, num(1), num(4), num(4)), line(2, two, num(1), num(4), num(5)), 1},
		{[]bool{false, true, false}, line(1, one, num(1), num(4), num(4)), line(2, two, num(1), num(5), num(5)), 1},
		{[]bool{true, false, true}, line(1, one, num(1), num(4), num(5)), line(2, two, num(1), num(5), num(5)), -1},
		{up, line(1, one, num(1), num(4), num(4)), line(2, two, num(1), num(4), num(4)), -1},
		{down, line(1, one, num(1), num(4), num(4)), line(2, two, num(1), num(4), num(4)), -1},
		{nil, line(1, one), line(2, two), -1},
		{[]bool{}, line(1, one), line(2, two), -1},
		{nil, line(1, api.Row{num(1), text("b")}), line(2, api.Row{num(1), text("a"), num(9)}), 1},
		{nil, line(1, api.Row{num(1)}), line(2, api.Row{num(1), null}), -1},
		{nil, line(1, nil), line(2, one), -1},
		{[]bool{true}, line(1, nil, null), line(2, one, null), -1},
		{[]bool{true}, line(1, one, text("b")), line(9, one, text("b")), 0},
		{up, line(1, api.Row{}), line(9, nil), 0},
	} {
		compared(t, c.falls, c.a, c.b, c.want)
	}
}

// P18.1: keys are in the order of values, or just the other way, null among them; Ties are in the order of values alone.
func TestCompareValues(t *testing.T) {
	l := rising()
	for n, v := range l {
		for m, w := range l {
			want := 0
			switch {
			case n < m:
				want = -1
			case n > m:
				want = 1
			}
			compared(t, []bool{false}, line(1, nil, v), line(2, nil, w), want)
			compared(t, []bool{true}, line(1, nil, v), line(2, nil, w), -want)
			compared(t, []bool{false, true}, line(1, nil, v, null), line(2, nil, w, text("x")), max(-1, min(2*want+1, 1)))
			compared(t, []bool{true}, line(1, api.Row{v}, null), line(2, api.Row{w}, null), want)
		}
	}
}

// some: lines of two keys, some the same, and null among them.
func some() []Line {
	return []Line{
		line(0, api.Row{num(3), text("b")}, num(1), text("x")),
		line(1, api.Row{num(3)}, num(1), text("x")),
		line(2, api.Row{num(9)}, null, text("y")),
		line(3, api.Row{num(-9)}, num(2), null),
		line(4, api.Row{num(3), text("a")}, num(1), text("w")),
		line(5, api.Row{num(4)}, null, null),
		line(6, api.Row{num(2)}, num(1), text("x")),
	}
}

// ways: directions, and the numbers of some lines in order.
func ways() []struct {
	falls []bool
	want  []int
} {
	return []struct {
		falls []bool
		want  []int
	}{
		{[]bool{false, false}, []int{5, 2, 4, 6, 1, 0, 3}},
		{[]bool{true, false}, []int{3, 4, 6, 1, 0, 5, 2}},
		{[]bool{false, true}, []int{2, 5, 6, 1, 0, 4, 3}},
		{[]bool{true, true}, []int{3, 6, 1, 0, 4, 2, 5}},
	}
}

// P18.1: the chapter's example.
func TestExample(t *testing.T) {
	l := []Line{line(1, api.Row{num(1)}, num(1)), line(2, api.Row{num(2)}, null), line(3, api.Row{num(3)}, num(2))}
	for n, want := range [][]int{{}, {3}, {3, 1}, {3, 1, 2}} {
		if got := numbers(Top([]bool{true}, l, n)); !slices.Equal(got, want) {
			t.Errorf("Top of %d: %v, want %v", n, got, want)
		}
	}
	if got := numbers(Sort([]bool{true}, l)); !slices.Equal(got, []int{3, 1, 2}) {
		t.Errorf("Sort: %v", got)
	}
	if got := numbers(Sort([]bool{false}, l)); !slices.Equal(got, []int{2, 1, 3}) {
		t.Errorf("Sort, rising: %v", got)
	}
}

// P18.1: all lines, and the first of them: whole ones, each as it was.
func TestSort(t *testing.T) {
	for _, c := range ways() {
		var want []Line
		for _, n := range c.want {
			want = append(want, some()[n])
		}
		if got := Sort(c.falls, some()); !reflect.DeepEqual(got, want) {
			t.Errorf("Sort(%v): %v, want %v", c.falls, got, want)
		}
		for n := range len(want) + 3 {
			got := Top(c.falls, some(), n)
			if len(got) != min(n, len(want)) || n > 0 && !reflect.DeepEqual(got, want[:len(got)]) {
				t.Errorf("Top(%v) of %d: %v, want %v", c.falls, n, got, want)
			}
		}
		for _, n := range []int{-1, -2, least, 8, most - 1, most} {
			if got := Top(c.falls, some(), n); !reflect.DeepEqual(got, want) {
				t.Errorf("Top(%v) of %d: %v, want %v", c.falls, n, got, want)
			}
		}
	}
}

// P18.1: of no line, and of one.
func TestFew(t *testing.T) {
	one := line(7, api.Row{num(1)}, null)
	for _, falls := range [][]bool{{false}, {true}} {
		for _, l := range [][]Line{nil, {}, {one}} {
			if got := Sort(falls, l); len(got) != len(l) || len(l) > 0 && !reflect.DeepEqual(got, l) {
				t.Errorf("Sort of %v: %v", l, got)
			}
			for _, n := range []int{least, -1, 0, 1, 2, most} {
				want := l
				if n == 0 {
					want = nil
				}
				if got := Top(falls, l, n); len(got) != len(want) || len(want) > 0 && !reflect.DeepEqual(got, want) {
					t.Errorf("Top of %v, %d: %v", l, n, got)
				}
			}
			if got := Outs(l); len(got) != len(l) {
				t.Errorf("Outs of %v: %v", l, got)
			}
		}
		if at, there := Place(falls, nil, one); at != 0 || there {
			t.Errorf("Place among none: %d, %v", at, there)
		}
	}
}

// P18.1: the place of each line, whatever is answered of it.
func TestPlace(t *testing.T) {
	for _, c := range ways() {
		l := Sort(c.falls, some())
		for n, x := range l {
			x.Out = nil
			if at, there := Place(c.falls, l, x); at != n || !there {
				t.Errorf("Place(%v) of %v: %d, %v, want %d, true", c.falls, x, at, there, n)
			}
			if at, there := Place(c.falls, slices.Delete(slices.Clone(l), n, n+1), x); at != n || there {
				t.Errorf("Place(%v) of %v that is gone: %d, %v, want %d, false", c.falls, x, at, there, n)
			}
			if at, there := Place(c.falls, l[:n], x); at != n || there {
				t.Errorf("Place(%v) of %v behind all: %d, %v, want %d, false", c.falls, x, at, there, n)
			}
			if at, there := Place(c.falls, l[n+1:], x); at != 0 || there {
				t.Errorf("Place(%v) of %v ahead of all: %d, %v, want 0, false", c.falls, x, at, there)
			}
		}
	}
}

// P18.1: what has a line's Keys, or its Tie, alone isn't it.
func TestPlaceNear(t *testing.T) {
	up, down := []bool{false, false}, []bool{true, true}
	for _, c := range []struct {
		falls []bool
		x     Line
		want  int
	}{
		{up, line(1, api.Row{num(3), num(0)}, num(1), text("x")), 5},
		{up, line(1, api.Row{}, num(1), text("x")), 3},
		{up, line(1, api.Row{num(3), text("b"), null}, num(1), text("x")), 6},
		{up, line(0, api.Row{num(3), text("b")}, num(1), text("x\x00")), 6},
		{up, line(0, api.Row{num(3), text("b")}, num(1), null), 2},
		{up, line(0, api.Row{num(3), text("b")}, truth(1), text("x")), 2},
		{up, line(3, api.Row{num(-9)}, num(1), text("z")), 6},
		{up, line(5, api.Row{num(4)}, num(most), null), 7},
		{up, line(3, api.Row{num(-9)}, null, null), 0},
		{down, line(3, api.Row{num(-9)}, null, null), 6},
		{down, line(3, api.Row{num(-9)}, num(2), text("z")), 0},
		{down, line(5, api.Row{num(4)}, num(most), null), 0},
		{down, line(1, api.Row{num(3), num(0)}, num(1), text("x")), 3},
		{down, line(0, api.Row{num(3), text("b")}, num(1), text("x\x00")), 1},
	} {
		if at, there := Place(c.falls, Sort(c.falls, some()), c.x); at != c.want || there {
			t.Errorf("Place(%v) of %v: %d, %v, want %d, false", c.falls, c.x, at, there, c.want)
		}
	}
}

// P18.1: what is answered of each, as it stands in the list, whether in order or not.
func TestOuts(t *testing.T) {
	l := []Line{
		{api.Row{num(2)}, api.Row{num(1)}, api.Row{text("a"), null}},
		{api.Row{num(1)}, api.Row{num(2)}, api.Row{truth(0)}},
		{api.Row{num(1)}, api.Row{num(3)}, api.Row{}},
		{api.Row{num(1)}, api.Row{num(4)}, nil},
		{nil, nil, api.Row{text("a"), null}},
	}
	got := Outs(l)
	if len(got) != len(l) {
		t.Fatalf("Outs: %v", got)
	}
	for n, r := range got {
		if !slices.Equal(r, l[n].Out) {
			t.Errorf("Outs: %v at %d, want %v", r, n, l[n].Out)
		}
	}
}

// P9: nothing that is no list of lines, nor in order, brings a call to an end of its own.
func TestOdd(t *testing.T) {
	odd := []Line{
		{}, line(1, nil), line(2, api.Row{num(1)}, num(1)), line(3, api.Row{num(1)}, num(1), num(2), num(3)), line(4, nil, api.Value{Kind: 9, Num: -1, Text: "x"}), line(5, api.Row{{Kind: -1}}, api.Value{Kind: -7}), line(2, api.Row{num(1)}, num(1)), line(6, api.Row{num(0)}, null, null),
	}
	for _, falls := range [][]bool{nil, {true}, {false, true}, {true, true, true, true, true}} {
		for n := range 12 {
			if got := Top(falls, odd, n); len(got) != min(n, len(odd)) {
				t.Errorf("Top of %d: %v", n, got)
			}
		}
		if got := Sort(falls, odd); len(got) != len(odd) || len(Outs(got)) != len(odd) {
			t.Errorf("Sort: %v", got)
		}
		for _, x := range odd {
			for _, y := range odd {
				if c := Compare(falls, x, y); c != -Compare(falls, y, x) || c < -1 || c > 1 {
					t.Errorf("Compare(%v, %v, %v): %d", falls, x, y, c)
				}
			}
			if at, _ := Place(falls, odd, x); at < 0 || at > len(odd) {
				t.Errorf("Place of %v: %d", x, at)
			}
		}
	}
}
