package order

import (
	"reflect"
	"slices"
	"strings"
	"testing"

	"stillroom/api"
)

// dice: numbers that are the same each time.
type dice uint64

func (d *dice) throw(n int) int {
	*d = *d*6364136223846793005 + 1442695040888963407
	return int(uint64(*d) >> 33 % uint64(n))
}

// row: of a few values, so that many have some in common.
func (d *dice) row(n int) api.Row {
	var r api.Row
	for range n {
		r = append(r, rising()[d.throw(17)*d.throw(2)])
	}
	return r
}

// lines: of so many keys, no two of one Tie.
func (d *dice) lines(most, keys int) []Line {
	var l []Line
	for range d.throw(most + 1) {
		tie := d.row(d.throw(4))
		if !slices.ContainsFunc(l, func(x Line) bool { return slices.Equal(x.Tie, tie) }) {
			l = append(l, line(len(l), tie, d.row(keys)...))
		}
	}
	return l
}

// falls: directions of so many keys.
func (d *dice) falls(keys int) []bool {
	var l []bool
	for range keys {
		l = append(l, d.throw(2) == 0)
	}
	return l
}

// mix puts a list in another order.
func mix[E any](d *dice, l []E) []E {
	l = slices.Clone(l)
	for n := len(l) - 1; n > 0; n-- {
		at := d.throw(n + 1)
		l[n], l[at] = l[at], l[n]
	}
	return l
}

// less: is a value ahead of another one, as chapter 1 has it?
func less(a, b api.Value) bool {
	if a.Kind != b.Kind {
		return a.Kind < b.Kind
	}
	return a.Num < b.Num || a.Num == b.Num && strings.Compare(a.Text, b.Text) < 0
}

// ahead: is a line ahead of another one, by the words of the chapter?
func ahead(falls []bool, a, b Line) bool {
	for n, fall := range falls {
		if a.Keys[n] != b.Keys[n] {
			return less(a.Keys[n], b.Keys[n]) != fall
		}
	}
	for n := range a.Tie {
		if n >= len(b.Tie) {
			return false
		}
		if a.Tie[n] != b.Tie[n] {
			return less(a.Tie[n], b.Tie[n])
		}
	}
	return len(a.Tie) < len(b.Tie)
}

// behind: how many of a list are ahead of a line.
func behind(falls []bool, l []Line, x Line) int {
	out := 0
	for _, y := range l {
		if ahead(falls, y, x) {
			out++
		}
	}
	return out
}

// model: the lines in order, each at the place that as many as are ahead of it leave.
func model(falls []bool, l []Line) []Line {
	out := make([]Line, len(l))
	for _, x := range l {
		out[behind(falls, l, x)] = x
	}
	return out
}

// like: are two lists of lines the same?
func like(a, b []Line) bool {
	return len(a) == len(b) && (len(a) == 0 || reflect.DeepEqual(a, b))
}

// P18.1: many lists of lines in order, and all numbers of first ones, are the model's, the same each time (R8).
func TestModel(t *testing.T) {
	d := dice(1)
	for range 4000 {
		keys := d.throw(4)
		falls, l := d.falls(keys), d.lines(14, keys)
		want := model(falls, l)
		for range 2 {
			if got := Sort(falls, l); !like(got, want) {
				t.Fatalf("Sort(%v) of %v: %v, want %v", falls, l, got, want)
			}
			for n := range len(l) + 2 {
				if got := Top(falls, l, n); !like(got, want[:min(n, len(l))]) {
					t.Fatalf("Top(%v) of %v, %d: %v, want %v", falls, l, n, got, want)
				}
			}
		}
	}
}

// P18.1: Compare and Place are the model's, also of lines that aren't there.
func TestModelPlace(t *testing.T) {
	d := dice(2)
	found := 0
	for range 20000 {
		keys := d.throw(3)
		falls, all := d.falls(keys), d.lines(14, keys)
		if len(all) == 0 {
			continue
		}
		l, x := model(falls, all[:d.throw(len(all)+1)]), all[d.throw(len(all))]
		at, there := Place(falls, l, x)
		is := slices.ContainsFunc(l, func(y Line) bool { return reflect.DeepEqual(x, y) })
		if at != behind(falls, l, x) || there != is {
			t.Fatalf("Place(%v) of %v in %v: %d, %v", falls, x, l, at, there)
		}
		if there {
			found++
		}
		for _, y := range all {
			want := 0
			switch {
			case ahead(falls, x, y):
				want = -1
			case ahead(falls, y, x):
				want = 1
			}
			if got := Compare(falls, x, y); got != want {
				t.Fatalf("Compare(%v, %v, %v): %d, want %d", falls, x, y, got, want)
			}
		}
	}
	if found < 1000 {
		t.Errorf("%d found", found)
	}
}

// P18.2: the first of some lines, in all orders of them.
func TestAllOrders(t *testing.T) {
	for _, c := range ways() {
		want := Sort(c.falls, some())
		orders := 0
		var try func(done, left []Line)
		try = func(done, left []Line) {
			if len(left) == 0 {
				orders++
				for n := range len(done) + 1 {
					if got := Top(c.falls, done, n); !like(got, want[:n]) {
						t.Fatalf("Top(%v) of %v, %d: %v, want %v", c.falls, numbers(done), n, numbers(got), numbers(want[:n]))
					}
				}
			}
			for n, x := range left {
				try(append(slices.Clone(done), x), slices.Delete(slices.Clone(left), n, n+1))
			}
		}
		try(nil, some())
		if orders != 5040 {
			t.Errorf("%d orders", orders)
		}
	}
}

// P18.2: with one line more the first n are those of the first n and it, whatever order lines come in, and wherever it comes.
func TestOneMore(t *testing.T) {
	d := dice(3)
	for range 4000 {
		keys := d.throw(3)
		falls, l := d.falls(keys), d.lines(16, keys)
		if len(l) == 0 {
			continue
		}
		for n := range len(l) + 1 {
			var first []Line
			for k, x := range mix(&d, l) {
				first = Top(falls, slices.Insert(first, d.throw(len(first)+1), x), n)
				if len(first) != min(n, k+1) {
					t.Fatalf("Top of %d, behind %d lines: %v", n, k+1, first)
				}
			}
			if want := Top(falls, l, n); !like(first, want) {
				t.Fatalf("Top(%v) of %v, %d, one by one: %v, want %v", falls, l, n, first, want)
			}
		}
	}
}

// P18.1, P18.2: long lists, rising, falling and mixed.
func TestLong(t *testing.T) {
	const size = 50000
	d := dice(4)
	var l []Line
	for n := range size {
		l = append(l, line(n, api.Row{num(n)}, num(n/100)))
	}
	back := slices.Clone(l)
	slices.Reverse(back)
	for _, come := range [][]Line{l, back, mix(&d, l)} {
		for _, n := range []int{0, 1, 2, 1000, 2000, size - 1, size, -1} {
			got, many := Top([]bool{true}, come, n), n
			if n < 0 {
				many = size
			}
			if len(got) != many {
				t.Fatalf("Top of %d: %d lines", n, len(got))
			}
			for k, x := range got {
				if want := size - 100*(k/100+1) + k%100; x.Out[0].Num != want {
					t.Fatalf("Top of %d: %d at %d, want %d", n, x.Out[0].Num, k, want)
				}
			}
		}
		if at, there := Place([]bool{false}, l, come[7]); at != come[7].Out[0].Num || !there {
			t.Errorf("Place of %v: %d, %v", come[7], at, there)
		}
	}
}
