package norm

import (
	"math"
	"slices"

	"stillroom/api"
	"stillroom/value"
)

// bound: one end of what may stand in a column; of an open one not its value itself. Null: there is none.
type bound struct {
	value api.Value
	open  bool
}

// span: what comparisons without an = leave of a column's values: what stands between two bounds, but for some that rise.
type span struct {
	low, high bound
	not       []api.Value
}

func least() api.Value {
	return api.Value{Kind: api.Int, Num: math.MinInt}
}

func greatest() api.Value {
	return api.Value{Kind: api.Int, Num: math.MaxInt}
}

// newSpan: of a column of a kind, by its facts.
func newSpan(k api.Kind, facts []api.Pred) span {
	var s span
	if k == api.Int {
		s.low.value, s.high.value = least(), greatest()
	}
	for _, p := range facts {
		s.take(p)
	}
	s.not = rising(s.not)
	s.shrink()
	s.not = slices.DeleteFunc(s.not, func(v api.Value) bool { return !s.between(v) })
	return s
}

// take: leaves what fulfils one more fact; what <> says is laid aside.
func (s *span) take(p api.Pred) {
	b := bound{value: p.Value}
	switch p.Rel {
	case api.Ne:
		s.not = append(s.not, p.Value)
	case api.Gt:
		s.low = narrower(s.low, b.without(1), 1)
	case api.Ge:
		s.low = narrower(s.low, b, 1)
	case api.Lt:
		s.high = narrower(s.high, b.without(-1), -1)
	case api.Le:
		s.high = narrower(s.high, b, -1)
	}
}

// without: a bound's next one inwards, which its value doesn't fulfil; inwards is up (1) or down (-1).
func (b bound) without(inwards int) bound {
	next, e := value.Add(b.value, api.Value{Kind: api.Int, Num: inwards})
	if e != api.OK {
		// A text has no next one that is told; behind the last int there is none at all.
		return bound{b.value, true}
	}
	return bound{value: next}
}

// narrower: of two bounds the one that leaves less.
func narrower(a, b bound, inwards int) bound {
	if a.value.Kind == api.Null {
		return b
	}
	c := inwards * value.Compare(b.value, a.value)
	if c > 0 || c == 0 && b.open {
		return b
	}
	return a
}

// shrink: the bounds go inwards, as long as a <> is of them.
func (s *span) shrink() {
	for _, v := range s.not {
		if v == s.low.value {
			s.low = s.low.without(1)
		}
	}
	for _, v := range slices.Backward(s.not) {
		if v == s.high.value {
			s.high = s.high.without(-1)
		}
	}
}

// between: does a value stand between the bounds, and is none of them?
func (s span) between(v api.Value) bool {
	// Null is ahead of all values, so no low bound leaves them all.
	return value.Compare(v, s.low.value) > 0 && (s.high.value.Kind == api.Null || value.Compare(v, s.high.value) < 0)
}

// empty: is nothing left? Of texts between two bounds that differ one counts as being there.
func (s span) empty() bool {
	if s.low.value.Kind == api.Null || s.high.value.Kind == api.Null {
		return false
	}
	c := value.Compare(s.low.value, s.high.value)
	return c > 0 || c == 0 && (s.low.open || s.high.open)
}

// told: that a column's value, which isn't null, is in the span.
func (s span) told(c api.Column) []api.Pred {
	switch {
	case s.empty():
		return []api.Pred{constant(false)}
	case s.low.value == s.high.value && s.low.value.Kind != api.Null:
		return []api.Pred{comparison(c.Name, api.Eq, s.low.value)}
	}
	var out []api.Pred
	if v := s.low.value; v.Kind != api.Null && v != least() {
		out = append(out, comparison(c.Name, sign(s.low, api.Gt, api.Ge), v))
	}
	if v := s.high.value; v.Kind != api.Null && v != greatest() {
		out = append(out, comparison(c.Name, sign(s.high, api.Lt, api.Le), v))
	}
	out = append(out, unlike(c.Name, s.not)...)
	if len(out) == 0 {
		return some(c)
	}
	return out
}

// sign: the comparison with a bound.
func sign(b bound, open, closed api.Rel) api.Rel {
	if b.open {
		return open
	}
	return closed
}
