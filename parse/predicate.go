package parse

import (
	"stillroom/api"
	"stillroom/logic"
)

// any: a predicate.
func (r *reader) any() api.Pred {
	return r.parts(api.POr, "OR", r.all)
}

// all: one without an OR, but in brackets.
func (r *reader) all() api.Pred {
	return r.parts(api.PAnd, "AND", r.one)
}

// one: likewise, without an AND too.
func (r *reader) one() api.Pred {
	if r.deep == api.MaxDeep {
		r.wrong(api.ErrDeep)
		return api.Pred{}
	}
	r.deep++
	p := r.form()
	r.deep--
	return p
}

// form: a one, by what it begins with.
func (r *reader) form() api.Pred {
	at := r.comes().At
	switch {
	case r.took("NOT"):
		return not(r.one(), at)
	case r.took("("):
		p := r.any()
		r.need(")")
		return p
	case r.named():
		return r.ofName(at)
	}
	return r.ofLiteral(at)
}

// ofName: a one that begins with a name.
func (r *reader) ofName(at int) api.Pred {
	p := api.Pred{Column: r.name(), At: at}
	if r.took("IS") {
		p.Kind = api.PNull
		if r.took("NOT") {
			p.Kind = api.PSome
		}
		r.need("NULL")
		return p
	}
	if r.took("NOT") {
		return not(r.among(p), at)
	}
	p.Rel = r.rel()
	switch {
	case p.Rel == 0:
		return r.among(p)
	case r.named():
		p.Kind, p.Other = api.PColumns, r.name()
	default:
		p.Kind, p.Value = api.PCompare, r.literal()
	}
	return p
}

// among: IN or BETWEEN, of p's column.
func (r *reader) among(p api.Pred) api.Pred {
	if r.took("IN") {
		p.Kind = api.PIn
		r.need("(")
		r.list(api.MaxList, func() { p.List = append(p.List, r.literal()) })
		r.need(")")
		return p
	}
	r.need("BETWEEN")
	low, high := p, p
	low.Kind, low.Rel, low.Value = api.PCompare, api.Ge, r.literal()
	r.need("AND")
	high.Kind, high.Rel, high.Value = api.PCompare, api.Le, r.literal()
	return api.Pred{Kind: api.PAnd, Kids: []api.Pred{low, high}, At: p.At}
}

// ofLiteral: a one that begins with a literal.
func (r *reader) ofLiteral(at int) api.Pred {
	v := r.literal()
	rel := r.rel()
	switch {
	case rel == 0:
		return r.truth(v, at)
	case r.named():
		// rel is a comparison, so there is no error to look at.
		turned, _ := logic.Turned(rel)
		return api.Pred{Kind: api.PCompare, Column: r.name(), Rel: turned, Value: v, At: at}
	}
	return api.Pred{Kind: api.PConst, Value: v, Rel: rel, List: []api.Value{r.literal()}, At: at}
}

// truth: a literal that isn't compared: just a bool is a predicate.
func (r *reader) truth(v api.Value, at int) api.Pred {
	if v.Kind != api.Bool {
		r.wrong(api.ErrSyntax)
	}
	kind := api.PFalse
	if v.Num == 1 {
		kind = api.PTrue
	}
	return api.Pred{Kind: kind, At: at}
}

// not: what a predicate isn't.
func not(p api.Pred, at int) api.Pred {
	return api.Pred{Kind: api.PNot, Kids: []api.Pred{p}, At: at}
}
