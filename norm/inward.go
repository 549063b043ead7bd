package norm

import (
	"slices"
	"strings"

	"stillroom/api"
	"stillroom/logic"
	"stillroom/value"
)

// inward: a predicate with NOT taken inwards, as far as ahead of its Kids.
func (m maker) inward(p api.Pred) api.Pred {
	not := false
	for p.Kind == api.PNot {
		not = !not
		p = within(p)
	}
	if p.Kind != api.PAnd && p.Kind != api.POr {
		return m.leaf(p, not)
	}
	if not {
		return api.Pred{Kind: other(p.Kind), Kids: nots(p.Kids)}
	}
	return api.Pred{Kind: p.Kind, Kids: p.Kids}
}

// within: what a NOT stands ahead of.
func within(p api.Pred) api.Pred {
	if len(p.Kids) == 1 {
		return p.Kids[0]
	}
	// No text has another number of them; an AND of them is what the truth of such a NOT is told by.
	return api.Pred{Kind: api.PAnd, Kids: p.Kids}
}

// other: of AND and OR the other kind.
func other(kind int) int {
	return api.PAnd + api.POr - kind
}

// nots: each of them with NOT ahead.
func nots(l []api.Pred) []api.Pred {
	var out []api.Pred
	for n := range l {
		out = append(out, api.Pred{Kind: api.PNot, Kids: l[n : n+1]})
	}
	return out
}

// leaf: a predicate that has no Kids, or NOT of it; it shares no list with p.
func (m maker) leaf(p api.Pred, not bool) api.Pred {
	switch p.Kind {
	case 0, api.PTrue:
		return constant(!not)
	case api.PFalse:
		return constant(not)
	case api.PNull, api.PSome:
		return m.null(p.Column, (p.Kind == api.PNull) != not)
	case api.PIn:
		return in(p, not)
	case api.PCompare, api.PColumns, api.PConst:
		if not {
			// Its Rel is a comparison, so there is no error to look at.
			p.Rel, _ = logic.Opposite(p.Rel)
		}
		return compared(p)
	}
	// Of other kinds nothing is known, of NOT of them neither.
	return constant(false)
}

// constant: PTrue or PFalse.
func constant(b bool) api.Pred {
	if b {
		return api.Pred{Kind: api.PTrue}
	}
	return api.Pred{Kind: api.PFalse}
}

// null: whether a column's value is null, or isn't.
func (m maker) null(column string, is bool) api.Pred {
	switch {
	case !is:
		return api.Pred{Kind: api.PSome, Column: column}
	case !m.column(column).Null:
		return constant(false)
	}
	return api.Pred{Kind: api.PNull, Column: column}
}

// in: whether a column's value is one of a list, or isn't.
func in(p api.Pred, not bool) api.Pred {
	l := rising(p.List)
	if not {
		// A null among them makes this false, as <> of it is.
		return api.Pred{Kind: api.PAnd, Kids: unlike(p.Column, l)}
	}
	l = slices.DeleteFunc(l, func(v api.Value) bool { return v.Kind == api.Null })
	return among(p.Column, l)
}

// rising: the values in order, each once.
func rising(l []api.Value) []api.Value {
	out := slices.Clone(l)
	slices.SortFunc(out, value.Compare)
	return slices.Compact(out)
}

// among: that a column's value is one of some that rise.
func among(column string, l []api.Value) api.Pred {
	switch len(l) {
	case 0:
		return constant(false)
	case 1:
		return comparison(column, api.Eq, l[0])
	}
	return api.Pred{Kind: api.PIn, Column: column, List: l}
}

// unlike: that a column's value is none of some.
func unlike(column string, l []api.Value) []api.Pred {
	var out []api.Pred
	for _, v := range l {
		out = append(out, comparison(column, api.Ne, v))
	}
	return out
}

// comparison: of a column with a literal.
func comparison(column string, rel api.Rel, v api.Value) api.Pred {
	return api.Pred{Kind: api.PCompare, Column: column, Rel: rel, Value: v}
}

// compared: of a comparison of any kind.
func compared(p api.Pred) api.Pred {
	switch {
	case p.Kind == api.PConst:
		// No text has one without a second literal; that would be null.
		second := append(slices.Clone(p.List), api.Value{})[0]
		truth, _ := logic.Of(p.Rel, p.Value, second)
		return constant(truth == api.True)
	case p.Kind == api.PColumns:
		return columns(p.Column, p.Rel, p.Other)
	case p.Value.Kind == api.Null:
		return constant(false)
	}
	return comparison(p.Column, p.Rel, p.Value)
}

// columns: of a comparison of two columns, which may be one.
func columns(column string, rel api.Rel, other string) api.Pred {
	switch strings.Compare(column, other) {
	case 0:
		if rel == api.Eq || rel == api.Le || rel == api.Ge {
			return api.Pred{Kind: api.PSome, Column: column}
		}
		return constant(false)
	case 1:
		turned, _ := logic.Turned(rel)
		column, rel, other = other, turned, column
	}
	return api.Pred{Kind: api.PColumns, Column: column, Rel: rel, Other: other}
}
