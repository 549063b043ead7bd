package tally

import (
	"errors"

	"stillroom/api"
	"stillroom/wide"
)

// With: with a value that comes.
func With(c Count, v api.Value) Count {
	return moved(c, v, 1, wide.Add)
}

// Without: with one that goes.
func Without(c Count, v api.Value) Count {
	return moved(c, v, -1, wide.Sub)
}

// moved: the count with so many more of a value, its ints reckoned in.
func moved(c Count, v api.Value, more int, reckon func(a, b wide.Sum) wide.Sum) Count {
	c.All += more
	switch v.Kind {
	case api.Null:
	case api.Int:
		c.Sum = reckon(c.Sum, wide.Of(v.Num))
		fallthrough
	default:
		c.Some += more
	}
	return c
}

// Tell: what an aggregate would be.
func Tell(c Count, agg api.Agg) (api.Value, api.Errno) {
	out, err := told(c, agg)
	if errors.Is(err, errWide) {
		return api.Value{}, api.ErrOver
	}
	return out, api.OK
}

// told: likewise, or what is wrong.
func told(c Count, agg api.Agg) (api.Value, error) {
	switch agg {
	case api.Rows:
		return number(c.All), nil
	case api.Count:
		return number(c.Some), nil
	case api.Sum:
		return sum(c)
	}
	return api.Value{}, nil
}

// sum: of a count.
func sum(c Count) (api.Value, error) {
	n, e := wide.Int(c.Sum)
	if e != api.OK {
		return api.Value{}, excess{wide.Text(c.Sum), errWide}
	}
	if c.Some == 0 {
		return api.Value{}, nil
	}
	return number(n), nil
}

func number(n int) api.Value {
	return api.Value{Kind: api.Int, Num: n}
}
