package norm

import (
	"maps"
	"slices"

	"stillroom/api"
)

// maker makes normal forms of predicates of a table.
type maker struct {
	api.Table
}

// all: a predicate with NOT taken inwards, and all that stand in it, each with NOT taken inwards too; Kids behind what they stand in. It has all its lists for itself.
func (m maker) all(p *api.Pred) []*api.Pred {
	out := []*api.Pred{p}
	// The list grows as it is gone through: calls within calls wouldn't do for Kids of any depth.
	for n := 0; n < len(out); n++ {
		at := out[n]
		at.Kids = m.joined(at.Kind, at.Kids)
		for k := range at.Kids {
			out = append(out, &at.Kids[k])
		}
	}
	return out
}

// joined: Kids with NOT taken inwards; those of a kind give way to their own Kids, as far down as that goes.
func (m maker) joined(kind int, kids []api.Pred) []api.Pred {
	var out []api.Pred
	left := slices.Clone(kids)
	for len(left) > 0 {
		p := m.inward(left[len(left)-1])
		left = left[:len(left)-1]
		if p.Kind == kind {
			left = append(left, p.Kids...)
		} else {
			out = append(out, p)
		}
	}
	return out
}

// formed: the normal form of a predicate whose Kids are in theirs.
func (m maker) formed(p api.Pred) api.Pred {
	switch p.Kind {
	case api.POr:
		return whole(api.POr, m.joined(api.POr, p.Kids))
	case api.PAnd:
		// A Kid that was an OR may have become an AND.
		return whole(api.PAnd, m.told(m.joined(api.PAnd, p.Kids)))
	}
	// A lone one is an AND of one.
	return whole(api.PAnd, m.told([]api.Pred{p}))
}

// told: the Kids of an AND, in the place of those that tell of a column what they tell together.
func (m maker) told(kids []api.Pred) []api.Pred {
	var out []api.Pred
	facts := map[string][]api.Pred{}
	for _, p := range kids {
		switch p.Kind {
		case api.PCompare, api.PIn, api.PNull, api.PSome:
			facts[p.Column] = append(facts[p.Column], p)
		default:
			out = append(out, p)
		}
	}
	for _, name := range slices.Sorted(maps.Keys(facts)) {
		out = append(out, m.of(name, facts[name])...)
	}
	return out
}

// whole: the AND, or the OR, of Kids, in normal form.
func whole(kind int, kids []api.Pred) api.Pred {
	slices.SortFunc(kids, Compare)
	kids = slices.CompactFunc(kids, func(a, b api.Pred) bool { return Compare(a, b) == 0 })
	return trimmed(api.Pred{Kind: kind, Kids: kids})
}

// trimmed: a predicate without PTrue and PFalse among its Kids; of one Kid that.
func trimmed(p api.Pred) api.Pred {
	decisive, rest := api.PFalse, api.PTrue
	switch p.Kind {
	case api.POr:
		decisive, rest = rest, decisive
	case api.PAnd:
	default:
		return p
	}
	if slices.ContainsFunc(p.Kids, ofKind(decisive)) {
		return api.Pred{Kind: decisive}
	}
	p.Kids = slices.DeleteFunc(p.Kids, ofKind(rest))
	switch len(p.Kids) {
	case 0:
		return api.Pred{Kind: rest}
	case 1:
		return p.Kids[0]
	}
	return p
}

// ofKind: asks whether a predicate is of a kind.
func ofKind(kind int) func(api.Pred) bool {
	return func(p api.Pred) bool { return p.Kind == kind }
}
