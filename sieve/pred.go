package sieve

import (
	"slices"

	"stillroom/api"
	"stillroom/logic"
)

// sieve: a predicate, laid out once for all rows of a table.
type sieve struct {
	columns columns
	preds   []*api.Pred // all that stand in it; Kids ahead of what they stand in, itself last
}

// laid: a predicate's sieve.
func laid(t api.Table, p api.Pred) sieve {
	// What is left is kept in a list: calls within calls wouldn't do for Kids of any depth. It is gone through from the end, as then what stands around is taken out first.
	left := []*api.Pred{&p}
	var out []*api.Pred
	for len(left) > 0 {
		last := left[len(left)-1]
		left = left[:len(left)-1]
		for n := range last.Kids {
			left = append(left, &last.Kids[n])
		}
		out = append(out, last)
	}
	slices.Reverse(out)
	return sieve{numbered(t), out}
}

// truth: the predicate's for a row.
func (s sieve) truth(r api.Row) api.Truth {
	// Truths that nothing has taken yet: a predicate's Kids' stand at the end, as they were told just ahead of it.
	var told []api.Truth
	for _, p := range s.preds {
		first := len(told) - len(p.Kids)
		told = append(told[:first], s.alone(*p, told[first:], r))
	}
	return told[0]
}

// alone: likewise, of one of the predicates, whose Kids' truths are told.
func (s sieve) alone(p api.Pred, kids []api.Truth, r api.Row) api.Truth {
	switch p.Kind {
	case 0, api.PTrue:
		return api.True
	case api.PFalse:
		return api.False
	case api.PAnd:
		return logic.And(kids...)
	case api.POr:
		return logic.Or(kids...)
	case api.PNot:
		// It has one Kid, which And leaves as it is.
		return logic.Not(logic.And(kids...))
	case api.PConst:
		return compared(p.Rel, p.Value, nth(p.List, 0))
	}
	return s.leaf(p, s.columns.value(r, p.Column), r)
}

// leaf: likewise, of one that asks for a column's value.
func (s sieve) leaf(p api.Pred, v api.Value, r api.Row) api.Truth {
	switch p.Kind {
	case api.PCompare:
		return compared(p.Rel, v, p.Value)
	case api.PColumns:
		return compared(p.Rel, v, s.columns.value(r, p.Other))
	case api.PIn:
		return logic.In(v, p.List)
	case api.PNull:
		return truthOf(v.Kind == api.Null)
	case api.PSome:
		return truthOf(v.Kind != api.Null)
	}
	// Of other kinds nothing is known.
	return api.Unknown
}

// compared: the truth of a comparison.
func compared(rel api.Rel, a, b api.Value) api.Truth {
	// A predicate that was read has a comparison that is one, so there is no error to look at.
	out, _ := logic.Of(rel, a, b)
	return out
}

// truthOf: True or False.
func truthOf(b bool) api.Truth {
	if b {
		return api.True
	}
	return api.False
}
