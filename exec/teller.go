package exec

import (
	"stillroom/api"
	"stillroom/tally"
)

// teller answers what an item is for a group, or what is wrong with it.
type teller func(g tally.Group) (api.Value, error)

// tellers: one for each of some items, of groups by columns.
func tellers(t api.Table, by, l []api.Item) []teller {
	var out []teller
	for _, x := range l {
		if x.Agg == api.Plain {
			out = append(out, column(by, x.Column))
		} else {
			out = append(out, aggregate(t, x))
		}
	}
	return out
}

// column: the teller of a column that is grouped by.
func column(by []api.Item, name string) teller {
	return func(g tally.Group) (api.Value, error) {
		for n, v := range g.Key {
			if by[n].Column == name {
				return v, nil
			}
		}
		return api.Value{}, nil
	}
}

// aggregate: the teller of an aggregate.
func aggregate(t api.Table, x api.Item) teller {
	return func(g tally.Group) (api.Value, error) {
		v, e := tally.Of(t, x, g.Rows)
		if e != api.OK {
			return api.Value{}, errWide
		}
		return v, nil
	}
}

// told: what each teller tells of a group, or what is wrong with it.
func told(l []teller, g tally.Group) (api.Row, error) {
	var out api.Row
	for _, tell := range l {
		v, err := tell(g)
		if err != nil {
			return nil, fault{g.Key, err}
		}
		out = append(out, v)
	}
	return out, nil
}
