package wide

import (
	"cmp"
	"math"
	"math/big"
	"slices"
	"testing"

	"stillroom/api"
)

const (
	most  = math.MaxInt
	least = math.MinInt
	full  = math.MaxUint64
)

// ints: where ints turn.
func ints() []int {
	l := []int{least, least + 1, most, most - 1}
	for _, n := range []int{0, 1, 2, 3, 9, 10, 11, 1<<31 - 1, 1 << 31, 1 << 32, 1<<62 - 1, 1 << 62, 1e18 - 1, 1e18, 1e18 + 1} {
		l = append(l, n, -n)
	}
	return l
}

// sums: where sums turn, each half at its edges.
func sums() []Sum {
	var l []Sum
	for _, high := range append(ints(), 542101086242752217, -542101086242752218) {
		for _, low := range []uint64{0, 1, 2, 9, 10, 1<<63 - 1, 1 << 63, 1<<63 + 1, 1e19 - 1, 1e19, 1e19 + 1, full - 1, full} {
			l = append(l, Sum{high, low})
		}
	}
	return l
}

// whole: what a sum is, by its words: High times 2^64, and Low.
func whole(a Sum) *big.Int {
	n := new(big.Int).Lsh(big.NewInt(int64(a.High)), 64)
	return n.Add(n, new(big.Int).SetUint64(a.Low))
}

// round: a number modulo 2^128, as a sum.
func round(n *big.Int) Sum {
	bits := new(big.Int).And(n, new(big.Int).Sub(new(big.Int).Lsh(big.NewInt(1), 128), big.NewInt(1)))
	high := new(big.Int).Rsh(bits, 64).Uint64()
	low := new(big.Int).And(bits, new(big.Int).SetUint64(full)).Uint64()
	return Sum{int(high), low}
}

// come: what ints come to, without bounds.
func come(l []int) *big.Int {
	n := new(big.Int)
	for _, m := range l {
		n.Add(n, big.NewInt(int64(m)))
	}
	return n
}

// P3.1: Of.
func TestOf(t *testing.T) {
	for _, c := range []struct {
		n    int
		want Sum
	}{
		{0, Sum{0, 0}}, {1, Sum{0, 1}}, {-1, Sum{-1, full}}, {-2, Sum{-1, full - 1}},
		{most, Sum{0, 1<<63 - 1}}, {least, Sum{-1, 1 << 63}},
	} {
		if got := Of(c.n); got != c.want {
			t.Errorf("Of(%d): %v, want %v", c.n, got, c.want)
		}
	}
	for _, n := range ints() {
		if got := whole(Of(n)); got.Cmp(big.NewInt(int64(n))) != 0 {
			t.Errorf("Of(%d) is %v", n, got)
		}
	}
}

// P3.1: Add and Sub at the edges of a half, and of the whole.
func TestRound(t *testing.T) {
	for _, c := range []struct{ a, b, sum, difference Sum }{
		{Of(2), Of(3), Of(5), Of(-1)},
		{Of(-2), Of(3), Of(1), Of(-5)},
		{Sum{0, full}, Of(1), Sum{1, 0}, Sum{0, full - 1}},
		{Sum{1, 0}, Of(1), Sum{1, 1}, Sum{0, full}},
		{Of(0), Of(1), Of(1), Sum{-1, full}},
		{Of(-1), Of(1), Of(0), Of(-2)},
		{Sum{most, full}, Of(1), Sum{least, 0}, Sum{most, full - 1}},
		{Sum{least, 0}, Of(1), Sum{least, 1}, Sum{most, full}},
		{Sum{least, 0}, Sum{least, 0}, Of(0), Of(0)},
		{Of(0), Sum{least, 0}, Sum{least, 0}, Sum{least, 0}},
		{Sum{most, full}, Sum{most, full}, Of(-2), Of(0)},
	} {
		if got := Add(c.a, c.b); got != c.sum {
			t.Errorf("Add(%v, %v): %v, want %v", c.a, c.b, got, c.sum)
		}
		if got := Sub(c.a, c.b); got != c.difference {
			t.Errorf("Sub(%v, %v): %v, want %v", c.a, c.b, got, c.difference)
		}
	}
}

// P3.1: Add, Sub and Compare of any two.
func TestPairs(t *testing.T) {
	l := sums()
	for _, a := range l {
		x := whole(a)
		for _, b := range l {
			y := whole(b)
			if got, want := Add(a, b), round(new(big.Int).Add(x, y)); got != want {
				t.Errorf("Add(%v, %v): %v, want %v", a, b, got, want)
			}
			if got, want := Sub(a, b), round(new(big.Int).Sub(x, y)); got != want {
				t.Errorf("Sub(%v, %v): %v, want %v", a, b, got, want)
			}
			if got, want := Compare(a, b), x.Cmp(y); got != want {
				t.Errorf("Compare(%v, %v): %d, want %d", a, b, got, want)
			}
		}
	}
}

// P3.1: Compare, where only one half differs, and where the two halves say otherwise.
func TestCompare(t *testing.T) {
	l := []Sum{{least, 0}, {least, full}, {-2, 9}, {-1, 0}, {-1, 1 << 63}, {-1, full}, {0, 0}, {0, 5}, {0, 1 << 63}, {0, full}, {1, 0}, {most, 0}, {most, full}}
	for i, a := range l {
		for j, b := range l {
			if got, want := Compare(a, b), cmp.Compare(i, j); got != want {
				t.Errorf("Compare(%v, %v): %d, want %d", a, b, got, want)
			}
		}
	}
}

// P3.1: Int of ints, and just outside them; R3: beside an error there is no int.
func TestInt(t *testing.T) {
	for _, n := range ints() {
		if got, e := Int(Of(n)); got != n || e != api.OK {
			t.Errorf("Int(Of(%d)): %d, %d", n, got, e)
		}
	}
	for _, a := range []Sum{
		{0, 1 << 63}, {0, 1<<63 + 1}, {0, full}, {-1, 1<<63 - 1}, {-1, 1}, {-1, 0},
		{1, 0}, {1, 5}, {1, 1 << 63}, {1, full}, {-2, 0}, {-2, 5}, {-2, 1 << 63}, {-2, full},
		{most, 0}, {most, full}, {least, 0}, {least, full},
	} {
		if got, e := Int(a); got != 0 || e != api.ErrOver {
			t.Errorf("Int(%v): %d, %d", a, got, e)
		}
	}
	for _, a := range sums() {
		want, bad := 0, api.ErrOver
		if n := whole(a); n.IsInt64() {
			want, bad = int(n.Int64()), api.OK
		}
		if got, e := Int(a); got != want || e != bad {
			t.Errorf("Int(%v): %d, %d, want %d, %d", a, got, e, want, bad)
		}
	}
}

// P3.1: Text.
func TestText(t *testing.T) {
	for _, c := range []struct {
		a    Sum
		want string
	}{
		{Of(0), "0"}, {Of(1), "1"}, {Of(-1), "-1"}, {Of(10), "10"}, {Of(-10), "-10"},
		{Of(most), "9223372036854775807"}, {Of(least), "-9223372036854775808"},
		{Sum{0, 1 << 63}, "9223372036854775808"}, {Sum{-1, 1<<63 - 1}, "-9223372036854775809"},
		{Sum{0, 1e19 - 1}, "9999999999999999999"}, {Sum{0, 1e19}, "10000000000000000000"}, {Sum{0, 1e19 + 7}, "10000000000000000007"},
		{Sub(Of(0), Sum{0, 1e19}), "-10000000000000000000"},
		{Sum{0, full}, "18446744073709551615"}, {Sum{1, 0}, "18446744073709551616"}, {Sum{-1, 0}, "-18446744073709551616"},
		{Sum{most, full}, "170141183460469231731687303715884105727"},
		{Sum{least, 1}, "-170141183460469231731687303715884105727"},
		{Sum{least, 0}, "-170141183460469231731687303715884105728"},
	} {
		if got := Text(c.a); got != c.want {
			t.Errorf("Text(%v): %s, want %s", c.a, got, c.want)
		}
	}
	for _, a := range sums() {
		if got, want := Text(a), whole(a).String(); got != want {
			t.Errorf("Text(%v): %s, want %s", a, got, want)
		}
	}
}

// P3.1: Text of each power of ten, of one less, and of those below 0.
func TestTextTens(t *testing.T) {
	n := big.NewInt(1)
	for range 39 {
		less := new(big.Int).Sub(n, big.NewInt(1))
		for _, m := range []*big.Int{n, less, new(big.Int).Neg(n), new(big.Int).Neg(less)} {
			if got, want := Text(round(m)), m.String(); got != want {
				t.Errorf("Text(%v): %s, want %s", round(m), got, want)
			}
		}
		n = new(big.Int).Mul(n, big.NewInt(10))
	}
}

// P3.1: Total, and what Int and Text tell of it.
func TestTotal(t *testing.T) {
	for _, c := range []struct {
		l    []int
		text string
		n    int
		e    api.Errno
	}{
		{nil, "0", 0, api.OK}, {[]int{}, "0", 0, api.OK}, {[]int{0}, "0", 0, api.OK}, {[]int{5, -7}, "-2", -2, api.OK},
		{[]int{most, 1, -1}, "9223372036854775807", most, api.OK},
		{[]int{least, -1, 1}, "-9223372036854775808", least, api.OK},
		{[]int{most, 1}, "9223372036854775808", 0, api.ErrOver},
		{[]int{least, -1}, "-9223372036854775809", 0, api.ErrOver},
		{[]int{most, most}, "18446744073709551614", 0, api.ErrOver},
		{[]int{most, most, 2}, "18446744073709551616", 0, api.ErrOver},
		{[]int{least, least}, "-18446744073709551616", 0, api.ErrOver},
		{[]int{least, least, least}, "-27670116110564327424", 0, api.ErrOver},
		{[]int{least, least, most, most, 2}, "0", 0, api.OK},
	} {
		a := Total(c.l)
		n, e := Int(a)
		if s := Text(a); s != c.text || n != c.n || e != c.e {
			t.Errorf("of %v: %s, %d, %d, want %s, %d, %d", c.l, s, n, e, c.text, c.n, c.e)
		}
	}
}

// P3.1: Total of many that all pull one way.
func TestTotalMany(t *testing.T) {
	for _, n := range []int{most, least, -1, 1} {
		l := slices.Repeat([]int{n}, 10000)
		if got, want := Total(l), round(come(l)); got != want {
			t.Errorf("of 10000 times %d: %v, want %v", n, got, want)
		}
	}
}

// orders calls do with each order of a list; first is how much of it stands already.
func orders(l []int, first int, do func(l []int)) {
	if first == len(l) {
		do(l)
		return
	}
	for n := first; n < len(l); n++ {
		l[first], l[n] = l[n], l[first]
		orders(l, first+1, do)
		l[first], l[n] = l[n], l[first]
	}
}

// P3.2: in any order the sum is the same, and Int answers it, if it is an int.
func TestAnyOrder(t *testing.T) {
	for _, l := range [][]int{
		{most, 1, -1}, {least, -1, 1}, {most, most, least, least, 2}, {most, most, most, -1, least, least, least},
		{least, least, least, most, most, 1}, {most, most, 1, -3}, {3, -4, 5, -6, 7, -8},
	} {
		sum := come(l)
		want, bad := 0, api.ErrOver
		if sum.IsInt64() {
			want, bad = int(sum.Int64()), api.OK
		}
		orders(slices.Clone(l), 0, func(l []int) {
			a := Total(l)
			n, e := Int(a)
			if a != round(sum) || n != want || e != bad {
				t.Errorf("of %v: %v, %d, %d, want %v, %d, %d", l, a, n, e, sum, want, bad)
			}
		})
	}
}

// P3.2: what came in any parts, and what went again, leaves the sum of the rest.
func TestParts(t *testing.T) {
	l := slices.Concat(ints(), []int{most, most, most, least, least})
	all := Total(l)
	if all != round(come(l)) {
		t.Errorf("of %v: %v, want %v", l, all, come(l))
	}
	for n := range len(l) + 1 {
		front, back := Total(l[:n]), Total(l[n:])
		if Add(front, back) != all || Add(back, front) != all {
			t.Errorf("in parts of %d and %d: %v, want %v", n, len(l)-n, Add(front, back), all)
		}
		rest := all
		for _, m := range l[:n] {
			rest = Sub(rest, Of(m))
		}
		if rest != back || Sub(all, front) != back {
			t.Errorf("without the first %d: %v, %v, want %v", n, rest, Sub(all, front), back)
		}
	}
}

// R6: a list that is handed in stays, spare room included.
func TestStays(t *testing.T) {
	room := []int{most, 1, -1, least, 7}
	l := slices.Clone(room)
	for n := range len(l) + 1 {
		Total(l[:n])
	}
	if !slices.Equal(l, room) {
		t.Errorf("what was handed in is now %v", l)
	}
}
