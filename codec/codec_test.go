package codec

import (
	"bytes"
	"math"
	"slices"
	"strings"
	"testing"

	"stillroom/api"
)

var (
	null = api.Value{}
	no   = api.Value{Kind: api.Bool}
	yes  = api.Value{Kind: api.Bool, Num: 1}
)

func num(n int) api.Value     { return api.Value{Kind: api.Int, Num: n} }
func text(s string) api.Value { return api.Value{Kind: api.Text, Text: s} }

// full: the last of ten bytes that a number may have, and nine ahead of it.
var full = []byte{255, 255, 255, 255, 255, 255, 255, 255, 255, 1}

func join(l ...[]byte) []byte { return slices.Concat(l...) }

// numbers: each edge of a byte more, with what stands beside it.
func numbers() []uint64 {
	l := []uint64{0, 1, 2, 3, 300, math.MaxUint64 - 1, math.MaxUint64}
	for bits := 1; bits < 64; bits++ {
		l = append(l, 1<<bits-1, 1<<bits, 1<<bits+1)
	}
	slices.Sort(l)
	return slices.Compact(l)
}

func values() []api.Value {
	l := []api.Value{null, no, yes}
	for _, n := range numbers() {
		l = append(l, num(int(n)))
		if n > 0 && n <= 1<<63 {
			l = append(l, num(-int(n)))
		}
	}
	for _, s := range []string{"", "\x00", "\x00\x00", "\x01", "\x03\x02", "\x80", "\xff", "a", "ab", "é"} {
		l = append(l, text(s))
	}
	for n := range api.MaxText {
		l = append(l, text(strings.Repeat("x", n+1)))
	}
	seen := map[api.Value]bool{}
	return slices.DeleteFunc(l, func(v api.Value) bool {
		twice := seen[v]
		seen[v] = true
		return twice
	})
}

// rows: short ones of all pairs of some values, one of each value, and long ones.
func rows() []api.Row {
	some := []api.Value{null, no, yes, num(0), num(-1), num(1), num(64), text(""), text("\x00"), text("ab")}
	l := []api.Row{nil, values()[:255]}
	for _, v := range values() {
		l = append(l, api.Row{v})
	}
	for _, v := range some {
		for _, w := range some {
			l = append(l, api.Row{v, w})
		}
	}
	for _, n := range []int{3, 126, 127, 128, 129, 254, 255} {
		l = append(l, slices.Repeat(api.Row{null}, n), slices.Repeat(api.Row{text("")}, n))
	}
	return l
}

// lists: of rows.
func lists() [][]api.Row {
	some := []api.Row{nil, {null}, {null, null}, {num(5), null, text("ab")}, {text("\x01\x00")}}
	l := [][]api.Row{nil, rows()}
	for _, r := range rows() {
		l = append(l, []api.Row{r})
	}
	for _, r := range some {
		for _, s := range some {
			l = append(l, []api.Row{r, s})
		}
	}
	for _, n := range []int{3, 127, 128, 255, 256, 1000} {
		l = append(l, make([]api.Row, n), slices.Repeat([]api.Row{{yes}}, n))
	}
	return l
}

func texts() []string {
	l := []string{"", "\x00", "\x01", "\x80", "\x01a", "a", "ab", "é", "\xff\xff"}
	for _, n := range []int{3, 60, 61, 127, 128, 129, 255, 256, 16383, 16384, 200000} {
		l = append(l, strings.Repeat("x", n))
	}
	return l
}

// P4.1: Number; each byte more begins where seven bits more are needed.
func TestNumber(t *testing.T) {
	for _, c := range []struct {
		n    uint64
		want []byte
	}{
		{0, []byte{0}}, {1, []byte{1}}, {127, []byte{127}}, {128, []byte{128, 1}}, {129, []byte{129, 1}}, {255, []byte{255, 1}}, {256, []byte{128, 2}}, {300, []byte{172, 2}},
		{1<<14 - 1, []byte{255, 127}}, {1 << 14, []byte{128, 128, 1}}, {1<<21 - 1, []byte{255, 255, 127}}, {1 << 21, []byte{128, 128, 128, 1}},
		{1<<63 - 1, []byte{255, 255, 255, 255, 255, 255, 255, 255, 127}}, {1 << 63, []byte{128, 128, 128, 128, 128, 128, 128, 128, 128, 1}},
		{math.MaxUint64 - 1, join([]byte{254}, full[1:])}, {math.MaxUint64, full},
	} {
		if got := Number(c.n); !bytes.Equal(got, c.want) {
			t.Errorf("Number(%d): %v, want %v", c.n, got, c.want)
		}
	}
	for _, n := range numbers() {
		got, many := Number(n), 1
		for rest := n >> 7; rest > 0; rest >>= 7 {
			many++
		}
		if len(got) != many {
			t.Errorf("Number(%d): %v, want %d bytes", n, got, many)
		}
	}
}

// P4.1: Value.
func TestValue(t *testing.T) {
	long := strings.Repeat("z", api.MaxText)
	for _, c := range []struct {
		v    api.Value
		want []byte
	}{
		{null, []byte{0}}, {no, []byte{1}}, {yes, []byte{2}},
		{num(0), []byte{3, 0}}, {num(-1), []byte{3, 1}}, {num(1), []byte{3, 2}}, {num(-2), []byte{3, 3}}, {num(2), []byte{3, 4}}, {num(5), []byte{3, 10}},
		{num(63), []byte{3, 126}}, {num(-64), []byte{3, 127}}, {num(64), []byte{3, 128, 1}}, {num(-65), []byte{3, 129, 1}}, {num(150), []byte{3, 172, 2}},
		{num(math.MaxInt), join([]byte{3, 254}, full[1:])}, {num(math.MinInt), join([]byte{3}, full)},
		{text(""), []byte{4, 0}}, {text("\x00"), []byte{4, 1, 0}}, {text("ab"), []byte{4, 2, 97, 98}}, {text("\xff\x80"), []byte{4, 2, 255, 128}}, {text(long), join([]byte{4, 60}, []byte(long))},
	} {
		if got := Value(c.v); !bytes.Equal(got, c.want) {
			t.Errorf("Value(%v): %v, want %v", c.v, got, c.want)
		}
	}
}

// P4.1: Row, Rows, String.
func TestLists(t *testing.T) {
	example := api.Row{num(5), null, text("ab")}
	long := strings.Repeat("y", 300)
	for _, c := range []struct{ got, want []byte }{
		{Row(nil), []byte{0}}, {Row(api.Row{}), []byte{0}}, {Row(api.Row{null}), []byte{1, 0}},
		{Row(example), []byte{3, 3, 10, 0, 4, 2, 97, 98}},
		{Row(make(api.Row, 127)), join([]byte{127}, make([]byte, 127))}, {Row(make(api.Row, 128)), join([]byte{128, 1}, make([]byte, 128))}, {Row(make(api.Row, 255)), join([]byte{255, 1}, make([]byte, 255))},
		{Rows(nil), []byte{0}}, {Rows([]api.Row{}), []byte{0}}, {Rows([]api.Row{nil}), []byte{1, 0}}, {Rows([]api.Row{{}, {}}), []byte{2, 0, 0}},
		{Rows([]api.Row{example, nil, {no, yes}}), []byte{3, 3, 3, 10, 0, 4, 2, 97, 98, 0, 2, 1, 2}},
		{Rows(make([]api.Row, 300)), join([]byte{172, 2}, make([]byte, 300))},
		{String(""), []byte{0}}, {String("\x00"), []byte{1, 0}}, {String("xy"), []byte{2, 'x', 'y'}}, {String(long), join([]byte{172, 2}, []byte(long))},
	} {
		if !bytes.Equal(c.got, c.want) {
			t.Errorf("%v, want %v", c.got, c.want)
		}
	}
}

// kept does to each of a list what P4.2 says of one kind of things: it is read back, whatever stands behind; none of its beginnings reads; no two are written alike, nor one as the other's beginning.
func kept[T any](t *testing.T, l []T, write func(T) []byte, read func([]byte) (T, int, api.Errno), same func(a, b T) bool) {
	var all [][]byte
	for _, x := range l {
		b := write(x)
		all = append(all, b)
		for _, tail := range [][]byte{nil, {0}, {1}, {127}, {128}, {255}, {128, 0}, full, b} {
			if y, n, e := read(join(b, tail)); !same(x, y) || n != len(b) || e != api.OK {
				t.Fatalf("of %v, with %v behind, is read: %v, %d, %d", b, tail, y, n, e)
			}
		}
		// Of a long one its front, and its end.
		for n := range len(b) {
			if n < 400 || n > len(b)-20 {
				none(t, b[:n], read)
			}
		}
	}
	slices.SortFunc(all, bytes.Compare)
	for n := range len(all) - 1 {
		// In this order what begins with another one has it, or what begins with it too, just ahead.
		if bytes.HasPrefix(all[n+1], all[n]) {
			t.Errorf("%v begins with %v", all[n+1], all[n])
		}
	}
}

// none: bytes don't begin with what is read; R3: nothing is answered but that.
func none[T any](t *testing.T, b []byte, read func([]byte) (T, int, api.Errno)) {
	t.Helper()
	if y, n, e := read(b); e != api.ErrForm || n != 0 || !nothing(y) {
		t.Errorf("of %v is read: %v, %d, %d", b[:min(len(b), 40)], y, n, e)
	}
}

func nothing(x any) bool {
	switch x := x.(type) {
	case uint64:
		return x == 0
	case api.Value:
		return x == null
	case api.Row:
		return len(x) == 0
	case []api.Row:
		return len(x) == 0
	case string:
		return x == ""
	}
	return false
}

func equal[T comparable](a, b T) bool   { return a == b }
func sameRow(a, b api.Row) bool         { return slices.Equal(a, b) }
func sameRows(a, b []api.Row) bool      { return slices.EqualFunc(a, b, sameRow) }
func TestKeptNumbers(t *testing.T)      { kept(t, numbers(), Number, ReadNumber, equal) }
func TestKeptValues(t *testing.T)       { kept(t, values(), Value, ReadValue, equal) }
func TestKeptRows(t *testing.T)         { kept(t, rows(), Row, ReadRow, sameRow) }
func TestKeptListsOfRows(t *testing.T)  { kept(t, lists(), Rows, ReadRows, sameRows) }
func TestKeptTexts(t *testing.T)        { kept(t, texts(), String, ReadString, equal) }
func TestShortNumbers(t *testing.T)     { short(t, 4, Number, ReadNumber) }
func TestShortValues(t *testing.T)      { short(t, 5, Value, ReadValue) }
func TestShortRows(t *testing.T)        { short(t, 5, Row, ReadRow) }
func TestShortListsOfRows(t *testing.T) { short(t, 5, Rows, ReadRows) }
func TestShortTexts(t *testing.T)       { short(t, 4, String, ReadString) }

// short: of all short bytes of some kinds just those are read that begin with what is written (P4.1), and that in one way alone (P4.2).
func short[T any](t *testing.T, most int, write func(T) []byte, read func([]byte) (T, int, api.Errno)) {
	var grow func(b []byte)
	grow = func(b []byte) {
		x, n, e := read(b)
		switch {
		case e != api.OK:
			none(t, b, read)
		case n > len(b) || !bytes.Equal(write(x), b[:n]):
			t.Errorf("of %v is read: %v, %d, which is written %v", b, x, n, write(x))
		}
		if len(b) == most {
			return
		}
		for _, c := range []byte{0, 1, 2, 3, 4, 5, 127, 128, 129, 255} {
			grow(append(slices.Clip(b), c))
		}
	}
	grow(nil)
}
