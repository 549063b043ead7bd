package value

import (
	"math"
	"math/big"
	"slices"
	"strconv"
	"strings"
	"testing"

	"stillroom/api"
)

func num(n int) api.Value { return api.Value{Kind: api.Int, Num: n} }

func text(s string) api.Value { return api.Value{Kind: api.Text, Text: s} }

var (
	null = api.Value{}
	no   = api.Value{Kind: api.Bool}
	yes  = api.Value{Kind: api.Bool, Num: 1}
)

// rising: good values, each ahead of the next.
func rising() []api.Value {
	l := []api.Value{null, no, yes}
	for _, n := range []int{math.MinInt, math.MinInt + 1, -1 << 32, -10, -9, -1, 0, 1, 2, 9, 10, 1 << 32, math.MaxInt - 1, math.MaxInt} {
		l = append(l, num(n))
	}
	long := strings.Repeat("a", api.MaxText)
	for _, s := range []string{"", "\x00", "\x00\x00", "\x01", "\n", " ", "!", "'", "''", "'a", "10", "9", "A", "NULL", "\\", "a", "a\x00", "aA", "aa", long[1:], long, long[1:] + "b", "b", "~", "\x7f", "\x80", "é", "\xff", strings.Repeat("\xff", api.MaxText)} {
		l = append(l, text(s))
	}
	return l
}

// wrong: values that aren't good.
func wrong() []api.Value {
	return []api.Value{
		{Num: 1}, {Num: -1}, {Text: "a"}, {Text: "\x00"},
		{Kind: api.Bool, Num: 2}, {Kind: api.Bool, Num: -1}, {Kind: api.Bool, Num: math.MinInt}, {Kind: api.Bool, Text: "a"}, {Kind: api.Bool, Num: 1, Text: "TRUE"},
		{Kind: api.Int, Text: "1"}, {Kind: api.Int, Num: 1, Text: "1"},
		{Kind: api.Text, Num: 1}, {Kind: api.Text, Num: -1, Text: "a"},
		text(strings.Repeat("a", api.MaxText+1)), text(strings.Repeat("\x00", 1000)),
		{Kind: 4}, {Kind: -1}, {Kind: math.MaxInt}, {Kind: math.MinInt}, {Kind: 4, Num: 1, Text: "a"},
	}
}

// R1: int has 64 bits.
func TestInt(t *testing.T) {
	if strconv.IntSize != 64 {
		t.Fatalf("R1: int has %d bits", strconv.IntSize)
	}
}

// P1.1: Good.
func TestGood(t *testing.T) {
	for _, v := range rising() {
		if !Good(v) {
			t.Errorf("Good(%v): false", v)
		}
	}
	for _, v := range wrong() {
		if Good(v) {
			t.Errorf("Good(%v): true", v)
		}
	}
}

// P1.1, P1.2: Compare, of any two; from that each value is ahead of all behind it, too.
func TestCompare(t *testing.T) {
	l := rising()
	for i, a := range l {
		for j, b := range l {
			want := 0
			if i < j {
				want = -1
			} else if i > j {
				want = 1
			}
			if c := Compare(a, b); c != want {
				t.Errorf("Compare(%v, %v): %d, want %d", a, b, c, want)
			}
		}
	}
}

// P1.2: an order of all texts of up to two bytes, which is that of their bytes.
func TestCompareTexts(t *testing.T) {
	l := []string{""}
	for a := range 256 {
		l = append(l, string([]byte{byte(a)}))
		for _, b := range []byte{0, 1, '\'', 'a', 127, 128, 255} {
			l = append(l, string([]byte{byte(a), b}))
		}
	}
	for i := 1; i < len(l); i++ {
		a, b := text(l[i-1]), text(l[i])
		if Compare(a, b) != -1 || Compare(b, a) != 1 || Compare(b, b) != 0 {
			t.Errorf("Compare(%v, %v): %d, turned %d", a, b, Compare(a, b), Compare(b, a))
		}
	}
}

// P1.1, P1.2: Rows and Same.
func TestRows(t *testing.T) {
	l := []api.Row{
		nil, {null}, {null, null}, {null, num(1)}, {no}, {yes}, {yes, no, text("a")},
		{num(-1), text("z")}, {num(1)}, {num(1), null}, {num(1), null, null}, {num(1), num(0)}, {num(1), text("")}, {num(2)}, {num(2), null},
		{text("")}, {text(""), null}, {text("a"), text("b")}, {text("ab")}, {text("b"), num(1)}, {text("b"), num(2)},
	}
	for i, a := range l {
		for j, b := range l {
			want := 0
			if i < j {
				want = -1
			} else if i > j {
				want = 1
			}
			if c := Rows(a, b); c != want {
				t.Errorf("Rows(%v, %v): %d, want %d", a, b, c, want)
			}
			if s := Same(a, slices.Clone(b)); s != (i == j) {
				t.Errorf("Same(%v, %v): %v", a, b, s)
			}
		}
	}
	if Rows(nil, api.Row{}) != 0 || Rows(api.Row{}, nil) != 0 || !Same(nil, api.Row{}) || !Same(api.Row{}, nil) {
		t.Error("R5: a row that is nil isn't as an empty one")
	}
}

// edges: ints where reckoning turns.
func edges() []int {
	var l []int
	for _, n := range []int{0, 1, 2, 3, 5, 7, 10, 1 << 31, 1 << 32, 3037000499, 3037000500, 1 << 62, math.MaxInt / 3, math.MaxInt / 2, math.MaxInt - 1, math.MaxInt} {
		l = append(l, n, -n, n-1, -n-1)
	}
	return l
}

// whole: a reckoning of ints without bounds.
func whole(n *big.Int) (api.Value, api.Errno) {
	if !n.IsInt64() {
		return null, api.ErrOver
	}
	return num(int(n.Int64())), api.OK
}

// P1.1: Add, Sub, Mul and Neg of ints.
func TestReckon(t *testing.T) {
	for _, x := range edges() {
		a := big.NewInt(int64(x))
		want, bad := whole(new(big.Int).Neg(a))
		if v, e := Neg(num(x)); v != want || e != bad {
			t.Errorf("Neg(%d): %v, %d, want %v, %d", x, v, e, want, bad)
		}
		for _, y := range edges() {
			b := big.NewInt(int64(y))
			for _, c := range []struct {
				name string
				do   func(a, b api.Value) (api.Value, api.Errno)
				n    *big.Int
			}{
				{"Add", Add, new(big.Int).Add(a, b)},
				{"Sub", Sub, new(big.Int).Sub(a, b)},
				{"Mul", Mul, new(big.Int).Mul(a, b)},
			} {
				want, bad := whole(c.n)
				if v, e := c.do(num(x), num(y)); v != want || e != bad {
					t.Errorf("%s(%d, %d): %v, %d, want %v, %d", c.name, x, y, v, e, want, bad)
				}
			}
		}
	}
}

// P1.1, R2, R3, R7: what isn't reckoned with, and that Kind and Num alone count.
func TestReckonOthers(t *testing.T) {
	odd := []api.Value{no, yes, text(""), text("1"), {Kind: 4}, {Kind: -1, Num: 1}, {Kind: math.MaxInt}}
	nulls := []api.Value{null, {Num: 5}, {Text: "a"}, {Num: -1, Text: "a"}}
	ints := []api.Value{num(0), num(math.MinInt), num(math.MaxInt), {Kind: api.Int, Num: 3, Text: "a"}}
	check := func(name string, v api.Value, e api.Errno, want api.Value, bad api.Errno) {
		t.Helper()
		if v != want || e != bad {
			t.Errorf("%s: %v, %d, want %v, %d", name, v, e, want, bad)
		}
	}
	for _, do := range []func(a, b api.Value) (api.Value, api.Errno){Add, Sub, Mul} {
		for _, a := range odd {
			for _, b := range slices.Concat(odd, nulls, ints) {
				v, e := do(a, b)
				check("an odd one ahead", v, e, null, api.ErrRange)
				v, e = do(b, a)
				check("an odd one behind", v, e, null, api.ErrRange)
			}
		}
		for _, a := range nulls {
			for _, b := range slices.Concat(nulls, ints) {
				v, e := do(a, b)
				check("a null ahead", v, e, null, api.OK)
				v, e = do(b, a)
				check("a null behind", v, e, null, api.OK)
			}
		}
	}
	for _, a := range odd {
		v, e := Neg(a)
		check("Neg of an odd one", v, e, null, api.ErrRange)
	}
	for _, a := range nulls {
		v, e := Neg(a)
		check("Neg of a null", v, e, null, api.OK)
	}
	three := api.Value{Kind: api.Int, Num: 3, Text: "a"}
	v, e := Neg(three)
	check("Neg of an int with a text", v, e, num(-3), api.OK)
	v, e = Add(three, three)
	check("Add of ints with texts", v, e, num(6), api.OK)
	v, e = Sub(three, num(1))
	check("Sub of an int with a text", v, e, num(2), api.OK)
	v, e = Mul(num(2), three)
	check("Mul of an int with a text", v, e, num(6), api.OK)
}

// P1.4, R6: rows that are handed in stay, spare room included.
func TestStays(t *testing.T) {
	room := api.Row{num(1), text("a"), num(7), yes}
	other := api.Row{num(1), text("b"), null, text("c")}
	a, b := slices.Clone(room), slices.Clone(other)
	for n := range 5 {
		for m := range 5 {
			Rows(a[:n], b[:m])
			Same(a[:n], b[:m])
		}
	}
	if !slices.Equal(a, room) || !slices.Equal(b, other) {
		t.Errorf("what was handed in is now %v, %v", a, b)
	}
}

// P9: no call panics, whatever value it is given.
func TestAnyValue(t *testing.T) {
	l := append(wrong(), rising()...)
	for _, a := range l {
		Text(a)
		Neg(a)
		for _, b := range l {
			Compare(a, b)
			Rows(api.Row{a, b}, api.Row{b})
			Same(api.Row{a}, api.Row{b})
			Add(a, b)
			Sub(a, b)
			Mul(a, b)
		}
	}
}
