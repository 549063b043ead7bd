package norm

import (
	"slices"

	"stillroom/api"
	"stillroom/logic"
	"stillroom/schema"
)

// column: the one of a name.
func (m maker) column(name string) api.Column {
	n, e := schema.Column(m.Table, name)
	if e != api.OK {
		return api.Column{Name: name}
	}
	return m.Columns[n]
}

// of: what an AND tells of a column by its facts: the PCompares, PIns, PNulls and PSomes of that column.
func (m maker) of(name string, facts []api.Pred) []api.Pred {
	c := m.column(name)
	if slices.ContainsFunc(facts, ofKind(api.PNull)) {
		return nullAlone(name, facts)
	}
	l, ok := candidates(c.Kind, facts)
	if !ok {
		return newSpan(c.Kind, facts).told(c)
	}
	l = slices.DeleteFunc(l, func(v api.Value) bool { return !fulfils(v, facts) })
	if c.Kind == api.Bool && len(l) == 2 {
		return some(c)
	}
	return []api.Pred{among(name, l)}
}

// nullAlone: likewise, if there is a PNull among the facts.
func nullAlone(name string, facts []api.Pred) []api.Pred {
	more := slices.ContainsFunc(facts, func(p api.Pred) bool { return p.Kind != api.PNull })
	if more {
		return []api.Pred{constant(false)}
	}
	return []api.Pred{{Kind: api.PNull, Column: name}}
}

// some: that a column's value isn't null, if it may be.
func some(c api.Column) []api.Pred {
	if !c.Null {
		return nil
	}
	return []api.Pred{{Kind: api.PSome, Column: c.Name}}
}

// candidates: values, rising, among which are all that fulfil the facts; false: they aren't listed.
func candidates(k api.Kind, facts []api.Pred) ([]api.Value, bool) {
	if k == api.Bool {
		return []api.Value{{Kind: k, Num: 0}, {Kind: k, Num: 1}}, true
	}
	for _, p := range facts {
		switch {
		case p.Kind == api.PIn:
			return slices.Clone(p.List), true
		case p.Kind == api.PCompare && p.Rel == api.Eq:
			return []api.Value{p.Value}, true
		}
	}
	return nil, false
}

// fulfils: does a value that isn't null fulfil all facts?
func fulfils(v api.Value, facts []api.Pred) bool {
	for _, p := range facts {
		truth := api.True
		switch p.Kind {
		case api.PCompare:
			truth, _ = logic.Of(p.Rel, v, p.Value)
		case api.PIn:
			truth = logic.In(v, p.List)
		}
		if truth != api.True {
			return false
		}
	}
	return true
}
