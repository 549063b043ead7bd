package codec

import (
	"bytes"
	"errors"
	"math"
	"slices"
	"strings"
	"testing"

	"stillroom/api"
)

// ones: bytes of one kind.
func ones(c byte, n int) []byte { return bytes.Repeat([]byte{c}, n) }

// huge: counts beyond all that could follow, where they would turn in an int, or in what is reckoned of one.
func huge() []uint64 {
	return []uint64{1000, math.MaxInt32, math.MaxUint32, 1 << 32, 1 << 59, 1 << 62, math.MaxInt - 1, math.MaxInt, math.MaxInt + 1, math.MaxUint64 - 3, math.MaxUint64 - 1, math.MaxUint64}
}

// P4.1: bytes that begin with no number.
func TestNoNumber(t *testing.T) {
	for _, b := range [][]byte{
		nil, {}, {128}, {255}, {255, 255}, ones(128, 9), ones(255, 9),
		{128, 0}, {255, 0}, {129, 128, 0}, {128, 128, 0, 1}, append(ones(255, 8), 0), append(ones(255, 9), 0), append(ones(128, 9), 0),
		append(ones(255, 9), 2), append(ones(128, 9), 2), append(ones(128, 9), 3), append(ones(128, 9), 127),
		ones(128, 10), ones(255, 10), append(ones(128, 10), 0), append(ones(128, 10), 1), append(ones(255, 9), 129, 0), append(ones(255, 9), 129, 1), append(ones(128, 100), 1), append(ones(255, 100), 1), ones(128, 1000),
	} {
		none(t, b, ReadNumber)
		// What is no number is no count, and no int.
		none(t, b, ReadString)
		none(t, b, ReadRow)
		none(t, b, ReadRows)
		none(t, append([]byte{headInt}, b...), ReadValue)
		none(t, append([]byte{headText}, b...), ReadValue)
	}
	for _, b := range [][]byte{append(ones(128, 9), 1), append(ones(255, 9), 1), append(ones(128, 8), 1)} {
		if _, n, e := ReadNumber(b); n != len(b) || e != api.OK {
			t.Errorf("ReadNumber(%v): %d, %d", b, n, e)
		}
	}
}

// P4.1: bytes that begin with no value.
func TestNoValue(t *testing.T) {
	for head := 5; head < 256; head++ {
		none(t, []byte{byte(head)}, ReadValue)
		none(t, []byte{byte(head), 0, 0}, ReadValue)
	}
	for _, b := range [][]byte{
		nil, {3}, {3, 128}, {3, 128, 0}, {4}, {4, 1}, {4, 2, 'a'}, {4, 129, 0, 'a'},
		append([]byte{4, 60}, ones('a', 59)...), append([]byte{4, 61}, ones('a', 61)...), append([]byte{4, 127}, ones('a', 127)...), append([]byte{4, 128, 1}, ones('a', 128)...), append([]byte{4, 188, 2}, ones('a', 400)...),
	} {
		none(t, b, ReadValue)
	}
	if v, n, e := ReadValue(append([]byte{4, 60}, ones('a', 61)...)); v != text(strings.Repeat("a", 60)) || n != 62 || e != api.OK {
		t.Errorf("of 60 bytes: %v, %d, %d", v, n, e)
	}
	for _, n := range huge() {
		none(t, join([]byte{headText}, Number(n), ones('a', 61)), ReadValue)
	}
}

// P4.1: bytes that begin with no row: too few values, too many, or a wrong one anywhere.
func TestNoRow(t *testing.T) {
	for _, b := range [][]byte{
		nil, {1}, {2, 0}, {2, 0, 9}, {2, 9, 0}, {1, 5}, {1, 3}, {1, 4, 1}, {3, 3, 10, 0, 4, 2, 97}, {3, 3, 10, 0, 4, 2}, {3, 3, 10, 0, 5}, {128, 0}, {129, 0, 0},
		{1, 3, 128, 0}, append([]byte{1, 4, 61}, ones('a', 61)...),
		append([]byte{255, 1}, ones(0, 254)...), append([]byte{128, 2}, ones(0, 256)...), append([]byte{129, 2}, ones(0, 300)...),
		append([]byte{255, 1}, append(ones(0, 254), 5)...),
	} {
		none(t, b, ReadRow)
		none(t, append([]byte{1}, b...), ReadRows)
		none(t, append([]byte{2, 0}, b...), ReadRows)
	}
	for _, n := range huge() {
		none(t, append(Number(n), ones(0, 400)...), ReadRow)
	}
	// Written as any one, it is read as none.
	none(t, Row(make(api.Row, 256)), ReadRow)
	if r, n, e := ReadRow(append([]byte{255, 1}, ones(0, 256)...)); len(r) != 255 || n != 257 || e != api.OK {
		t.Errorf("of 255 values: %d, %d, %d", len(r), n, e)
	}
}

// P4.1: bytes that begin with no rows, or with no text by itself: counts of what isn't there.
func TestTooFew(t *testing.T) {
	for _, b := range [][]byte{nil, {1}, {2, 0}, {2, 0, 1}, {3, 0, 0}, {2, 1, 0}} {
		none(t, b, ReadRows)
	}
	for _, b := range [][]byte{nil, {1}, {2, 'a'}, append([]byte{127}, ones('a', 126)...), append([]byte{128, 1}, ones('a', 127)...)} {
		none(t, b, ReadString)
	}
	for _, n := range huge() {
		none(t, append(Number(n), ones(0, 400)...), ReadRows)
		none(t, append(Number(n), ones(0, 400)...), ReadString)
	}
}

// P4.1: of rows, and of the bytes of a text by itself, there may be any number.
func TestMany(t *testing.T) {
	const many = 100000
	if l, n, e := ReadRows(append(Number(many), ones(0, many+5)...)); len(l) != many || n != many+3 || e != api.OK {
		t.Errorf("of %d rows: %d, %d, %d", many, len(l), n, e)
	}
	if s, n, e := ReadString(append(Number(many), ones('a', many+5)...)); len(s) != many || n != many+3 || e != api.OK {
		t.Errorf("of %d bytes: %d, %d, %d", many, len(s), n, e)
	}
}

// Ways, layer 4: what reads wrongly is an error at a place, found by errors.As, that wraps why.
func TestPlaces(t *testing.T) {
	number := func(r *reader) error { _, err := r.number(); return err }
	value := func(r *reader) error { _, err := r.value(); return err }
	row := func(r *reader) error { _, err := r.row(); return err }
	rows := func(r *reader) error { _, err := r.rows(); return err }
	for _, c := range []struct {
		part func(r *reader) error
		b    []byte
		at   int
		why  error
	}{
		{number, nil, 0, errCut}, {number, []byte{128, 128}, 2, errCut}, {number, []byte{128, 0, 1}, 1, errLoose}, {number, append(ones(128, 9), 2, 0), 9, errWide}, {number, ones(128, 20), 9, errWide},
		{value, nil, 0, errCut}, {value, []byte{5, 0}, 0, errHead}, {value, []byte{3, 129, 0}, 2, errLoose}, {value, []byte{4, 2, 'a'}, 3, errCut}, {value, append([]byte{4, 61}, ones('a', 61)...), 1, errMany},
		{row, []byte{2, 0, 9}, 2, errHead}, {row, []byte{2, 3, 10}, 3, errCut}, {row, append([]byte{128, 2}, ones(0, 256)...), 1, errMany},
		{rows, []byte{2, 0, 1, 7}, 3, errHead}, {rows, append([]byte{9}, ones(0, 8)...), 9, errCut}, {rows, []byte{1, 1, 3, 128, 0}, 4, errLoose},
	} {
		var f flaw
		err := c.part(&reader{b: c.b})
		if !errors.As(err, &f) || f.at != c.at || !errors.Is(err, c.why) {
			t.Errorf("of %v: %v, want at %d: %v", c.b, err, c.at, c.why)
		}
	}
	if got := (flaw{7, errCut}).Error(); got != "at 7: the bytes end too soon" {
		t.Errorf("Error: %q", got)
	}
}

// P9: what isn't a good value ends without a panic.
func TestAnyValue(t *testing.T) {
	long := strings.Repeat("x", 1000)
	for _, v := range []api.Value{{Kind: -1}, {Kind: 4, Num: 3, Text: long}, {Kind: math.MaxInt}, {Kind: math.MinInt}, {Num: 7, Text: "a"}, {Kind: api.Bool, Num: -9}, {Kind: api.Text, Num: 2, Text: long}} {
		Value(v)
		Row(api.Row{v, v})
		Rows([]api.Row{{v}, {v, v}})
	}
}

// spoil writes over all of what bytes have, spare room included.
func spoil(b []byte) {
	for n := range b[:cap(b)] {
		b[:cap(b)][n] = 99
	}
}

// P4.3: bytes that are read stay, spare room included, and no answer shares them.
func TestReadStays(t *testing.T) {
	want := []api.Row{{text("ab"), num(300)}, nil, {text("xyz")}}
	room := join(Rows(want), []byte{0, 1, 2, 3, 4, 5})
	was := slices.Clone(room)
	for n := range len(room) + 1 {
		ReadNumber(room[:n])
		ReadValue(room[:n])
		ReadRow(room[:n])
		ReadRows(room[:n])
		ReadString(room[:n])
	}
	if !bytes.Equal(room, was) {
		t.Errorf("what was handed in is now %v", room)
	}
	l, _, _ := ReadRows(room)
	alone := join(String("hello"), []byte{7})
	s, _, _ := ReadString(alone)
	one := Value(text("hello"))
	v, _, _ := ReadValue(one)
	spoil(room)
	spoil(alone)
	spoil(one)
	if !sameRows(l, want) || s != "hello" || v != text("hello") {
		t.Errorf("with the bytes go %v, %q, %v", l, s, v)
	}
}

// P4.3, R6: rows of one answer share nothing, spare room included; nor do two answers.
func TestReadApart(t *testing.T) {
	for _, many := range []int{1, 2, 3, 5, 9, 17} {
		var want []api.Row
		for n := range many {
			want = append(want, slices.Repeat(api.Row{num(n)}, n+1))
		}
		b := Rows(want)
		first, _, _ := ReadRows(b)
		second, _, _ := ReadRows(b)
		for n := range first {
			all := first[n][:cap(first[n])]
			for k := range all {
				all[k] = text("spoilt")
			}
			if !sameRows(first[n+1:], want[n+1:]) {
				t.Errorf("of %d rows, those behind row %d go with it", many, n)
			}
		}
		for n := range first[:cap(first)] {
			first[:cap(first)][n] = nil
		}
		if !sameRows(second, want) {
			t.Errorf("of %d rows, a second answer goes with the first", many)
		}
	}
}

// P4.3: rows that are written stay, spare room included, and bytes of one answer aren't another's.
func TestWriteStays(t *testing.T) {
	row := api.Row{num(5), null, text("ab"), yes, no}
	room := []api.Row{row[:3], row, nil, {text("x")}}
	want, wantRow := slices.Clone(room), slices.Clone(row)
	for n := range len(room) + 1 {
		spoil(Rows(room[:n]))
	}
	for n := range len(row) + 1 {
		spoil(Row(row[:n]))
	}
	if !sameRows(room, want) || !sameRow(row, wantRow) {
		t.Errorf("what was handed in is now %v, %v", room, row)
	}
	for _, write := range []func() []byte{
		func() []byte { return Number(0) }, func() []byte { return Number(300) },
		func() []byte { return Value(null) }, func() []byte { return Value(yes) }, func() []byte { return Value(num(5)) }, func() []byte { return Value(text("ab")) },
		func() []byte { return Row(nil) }, func() []byte { return Row(row) }, func() []byte { return Rows(nil) }, func() []byte { return Rows(room) },
		func() []byte { return String("") }, func() []byte { return String("ab") },
	} {
		first, second := write(), write()
		was := slices.Clone(second)
		spoil(first)
		if !bytes.Equal(second, was) || !bytes.Equal(write(), was) {
			t.Errorf("%v goes with what was answered ahead of it", was)
		}
	}
}
