package tally

import (
	"slices"
	"testing"

	"stillroom/api"
	"stillroom/wide"
)

// with: a count with values.
func with(l ...api.Value) Count {
	var c Count
	for _, v := range l {
		c = With(c, v)
	}
	return c
}

// P17.1: what each kind of value does to a count, as it comes and as it goes.
func TestWith(t *testing.T) {
	for _, start := range []Count{{}, {3, 2, wide.Of(5)}, {1, 0, wide.Of(least)}, {-1, -2, wide.Sum{High: 4, Low: 9}}} {
		for _, c := range []struct {
			v         api.Value
			some, sum int
		}{
			{api.Value{}, 0, 0}, {truth(0), 1, 0}, {truth(1), 1, 0}, {num(0), 1, 0}, {num(7), 1, 7}, {num(-7), 1, -7}, {num(most), 1, most}, {num(least), 1, least}, {text(""), 1, 0}, {text("12"), 1, 0},
		} {
			if got, want := With(start, c.v), (Count{start.All + 1, start.Some + c.some, wide.Add(start.Sum, wide.Of(c.sum))}); got != want {
				t.Errorf("%v with %v: %v, want %v", start, c.v, got, want)
			}
			if got, want := Without(start, c.v), (Count{start.All - 1, start.Some - c.some, wide.Sub(start.Sum, wide.Of(c.sum))}); got != want {
				t.Errorf("%v without %v: %v, want %v", start, c.v, got, want)
			}
		}
	}
}

// P17.1: what is told of counts.
func TestTell(t *testing.T) {
	none := api.Value{}
	for _, c := range []struct {
		c         Count
		all, some int
		sum       api.Value
		e         api.Errno
	}{
		{Count{}, 0, 0, none, api.OK},
		{with(none, none), 2, 0, none, api.OK},
		{with(num(3)), 1, 1, num(3), api.OK},
		{with(num(3), none, num(-5)), 3, 2, num(-2), api.OK},
		{with(num(3), num(-3), none), 3, 2, num(0), api.OK},
		{with(num(0)), 1, 1, num(0), api.OK},
		{with(num(most), num(1)), 2, 2, none, api.ErrOver},
		{with(num(most), num(1), num(-1)), 3, 3, num(most), api.OK},
		{with(num(least), none, num(-1)), 3, 2, none, api.ErrOver},
		{with(num(least)), 1, 1, num(least), api.OK},
		{with(text("x"), num(4), truth(1)), 3, 3, num(4), api.OK},
		{Without(with(num(6)), num(6)), 0, 0, none, api.OK},
		{Without(with(num(6), none), num(6)), 1, 0, none, api.OK},
		{Without(Count{}, num(6)), -1, -1, num(-6), api.OK},
		{Without(Count{}, none), -1, 0, none, api.OK},
		{Count{1, 1, wide.Sum{High: 1, Low: 5}}, 1, 1, none, api.ErrOver},
		{Count{1, 1, wide.Sum{High: -1, Low: 5}}, 1, 1, none, api.ErrOver},
		{Count{most, least, wide.Sum{High: least}}, most, least, none, api.ErrOver},
	} {
		for agg, want := range map[api.Agg]api.Value{api.Rows: num(c.all), api.Count: num(c.some), api.Sum: c.sum, api.Min: none, api.Max: none, api.Plain: none, -1: none, 6: none, most: none} {
			e := api.OK
			if agg == api.Sum {
				e = c.e
			}
			if got, f := Tell(c.c, agg); got != want || f != e {
				t.Errorf("Tell of %v, %d: %v, %d, want %v, %d", c.c, agg, got, f, want, e)
			}
		}
	}
}

// P17.1, R2: a sum that is too wide is told ahead of Some, as the words name it first.
func TestTellOrder(t *testing.T) {
	if got, e := Tell(Count{0, 0, wide.Sum{High: 1}}, api.Sum); got != (api.Value{}) || e != api.ErrOver {
		t.Errorf("Tell of a sum too wide of no values: %v, %d", got, e)
	}
	if got, e := Tell(Count{0, 0, wide.Of(5)}, api.Sum); got != (api.Value{}) || e != api.OK {
		t.Errorf("Tell of a sum of no values: %v, %d", got, e)
	}
}

// P17.2: values that come, and some that go, in all orders of some steps, also ahead of when they come.
func TestComeAndGone(t *testing.T) {
	come := []api.Value{num(most), num(most), {}, text("x"), num(least)}
	gone := []api.Value{num(most), {}, num(least)}
	want := with(num(most), text("x"))
	type step struct {
		do func(Count, api.Value) Count
		v  api.Value
	}
	var steps []step
	for _, v := range come {
		steps = append(steps, step{With, v})
	}
	for _, v := range gone {
		steps = append(steps, step{Without, v})
	}
	orders := 0
	var orderly func(c Count, left []step)
	orderly = func(c Count, left []step) {
		if len(left) == 0 {
			if orders++; c != want {
				t.Fatalf("come and gone: %v, want %v", c, want)
			}
		}
		for n, s := range left {
			orderly(s.do(c, s.v), slices.Delete(slices.Clone(left), n, n+1))
		}
	}
	orderly(Count{}, steps)
	if orders != 40320 {
		t.Errorf("%d orders", orders)
	}
	if got, e := Tell(want, api.Sum); got != num(most) || e != api.OK {
		t.Errorf("Tell: %v, %d", got, e)
	}
}
