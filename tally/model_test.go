package tally

import (
	"math/big"
	"reflect"
	"slices"
	"strings"
	"testing"

	"stillroom/api"
)

// dice: numbers that are the same each time.
type dice uint64

func (d *dice) throw(n int) int {
	*d = *d*6364136223846793005 + 1442695040888963407
	return int(uint64(*d) >> 33 % uint64(n))
}

// value: of a kind, or null.
func (d *dice) value(k api.Kind) api.Value {
	switch {
	case d.throw(4) == 0:
		return api.Value{}
	case k == api.Bool:
		return truth(d.throw(2))
	case k == api.Int:
		return num([]int{least, least + 1, -1 << 62, -1, 0, 1, 2, 1 << 62, most - 1, most}[d.throw(10)])
	}
	return text([]string{"", "a", "a\x00", "ab", "b", "\xff"}[d.throw(6)])
}

// rows: of the table.
func (d *dice) rows() []api.Row {
	var l []api.Row
	for n := range d.throw(14) {
		l = append(l, api.Row{num(n), d.value(api.Text), d.value(api.Int), d.value(api.Bool)})
	}
	for n := len(l) - 1; n > 0; n-- {
		at := d.throw(n + 1)
		l[n], l[at] = l[at], l[n]
	}
	return l
}

// columns: the numbers of some, each once.
func (d *dice) columns() []int {
	var l []int
	for n := range 4 {
		if d.throw(3) == 0 {
			l = slices.Insert(l, d.throw(len(l)+1), n)
		}
	}
	return l
}

// whole: the sum of ints without bounds, and of how many.
func whole(l []api.Value) (*big.Int, int) {
	out, n := new(big.Int), 0
	for _, v := range l {
		if v.Kind == api.Int {
			out.Add(out, big.NewInt(int64(v.Num)))
			n++
		}
	}
	return out, n
}

// less: is a value ahead of another one, as chapter 1 has it?
func less(a, b api.Value) bool {
	if a.Kind != b.Kind {
		return a.Kind < b.Kind
	}
	return a.Num < b.Num || a.Num == b.Num && strings.Compare(a.Text, b.Text) < 0
}

// reckoned: an aggregate of values, by the words of the chapter.
func reckoned(agg api.Agg, l []api.Value) (api.Value, api.Errno) {
	there := slices.DeleteFunc(slices.Clone(l), func(v api.Value) bool { return v.Kind == api.Null })
	switch agg {
	case api.Rows:
		return num(len(l)), api.OK
	case api.Count:
		return num(len(there)), api.OK
	case api.Sum:
		sum, _ := whole(there)
		if !sum.IsInt64() {
			return api.Value{}, api.ErrOver
		}
		if len(there) > 0 {
			return num(int(sum.Int64())), api.OK
		}
		return api.Value{}, api.OK
	}
	for n, v := range there {
		best := true
		for m, w := range there {
			best = best && (n == m || !(agg == api.Min && less(w, v)) && !(agg == api.Max && less(v, w)))
		}
		if best {
			return v, api.OK
		}
	}
	return api.Value{}, api.OK
}

// P17.1: aggregates of many lists of rows are what the model reckons, the same each time (R8).
func TestModelOf(t *testing.T) {
	d := dice(1)
	over := 0
	for range 20000 {
		l := d.rows()
		n := d.throw(4)
		var values []api.Value
		for _, r := range l {
			values = append(values, r[n])
		}
		for _, agg := range []api.Agg{api.Rows, api.Count, api.Sum, api.Min, api.Max} {
			if agg == api.Sum && asking().Columns[n].Kind != api.Int {
				continue
			}
			want, e := reckoned(agg, values)
			if e != api.OK {
				over++
			}
			for range 2 {
				if got, f := Of(asking(), api.Item{Agg: agg, Column: asking().Columns[n].Name}, l); got != want || f != e {
					t.Fatalf("Of aggregate %d of %v: %v, %d, want %v, %d", agg, values, got, f, want, e)
				}
			}
		}
	}
	if over < 1000 {
		t.Errorf("%d sums too wide", over)
	}
}

// ahead: is a key ahead of another one?
func ahead(a, b api.Row) bool {
	for n := range a {
		if a[n] != b[n] {
			return less(a[n], b[n])
		}
	}
	return false
}

// model: groups by going through the rows for each key.
func model(columns []int, l []api.Row) []Group {
	if len(columns) == 0 {
		return []Group{{nil, l}}
	}
	var out []Group
	for _, r := range l {
		var key api.Row
		for _, n := range columns {
			key = append(key, r[n])
		}
		at := 0
		for at < len(out) && ahead(out[at].Key, key) {
			at++
		}
		if at == len(out) || !reflect.DeepEqual(out[at].Key, key) {
			out = slices.Insert(out, at, Group{Key: key})
		}
		out[at].Rows = append(out[at].Rows, r)
	}
	return out
}

// P17.1: groups of many lists of rows are the model's.
func TestModelGroups(t *testing.T) {
	d := dice(2)
	for range 20000 {
		l, columns := d.rows(), d.columns()
		var names []string
		for _, n := range columns {
			names = append(names, asking().Columns[n].Name)
		}
		grouped(t, Groups(asking(), by(names...), l), model(columns, l))
		if t.Failed() {
			t.Fatalf("of %v by %v", l, names)
		}
	}
}

// P17.2: counts of many values, some of which went again, are those of what is left; what is told of them is what the aggregate of the rows would be.
func TestModelCount(t *testing.T) {
	d := dice(3)
	over := 0
	for range 20000 {
		var c Count
		var left []api.Value
		k := api.Kind(d.throw(3) + 1)
		for range d.throw(40) {
			if len(left) > 0 && d.throw(5) < 2 {
				n := d.throw(len(left))
				c = Without(c, left[n])
				left = slices.Delete(left, n, n+1)
				continue
			}
			v := d.value(k)
			c, left = With(c, v), append(left, v)
		}
		if got := with(left...); got != c {
			t.Fatalf("with %v: %v, want %v", left, got, c)
		}
		slices.Reverse(left)
		if got := with(left...); got != c {
			t.Fatalf("with %v: %v, want %v", left, got, c)
		}
		for _, agg := range []api.Agg{api.Rows, api.Count, api.Sum} {
			if agg == api.Sum && k != api.Int {
				continue
			}
			want, e := reckoned(agg, left)
			if e != api.OK {
				over++
			}
			if got, f := Tell(c, agg); got != want || f != e {
				t.Fatalf("Tell of %v, %d: %v, %d, want %v, %d", left, agg, got, f, want, e)
			}
			if got, f := Of(asking(), api.Item{Agg: agg, Column: "c"}, rows(left...)); k == api.Int && (got != want || f != e) {
				t.Fatalf("Of %v, %d: %v, %d, want %v, %d", left, agg, got, f, want, e)
			}
		}
	}
	if over < 1000 {
		t.Errorf("%d sums too wide", over)
	}
}
