package parse

import (
	"stillroom/api"
	"stillroom/value"
)

// query: the whole text's.
func (r *reader) query() api.Query {
	q := api.Query{Limit: -1}
	r.need("SELECT")
	if r.took("*") {
		q.All = true
	} else {
		r.list(api.MaxItems, func() { q.Items = append(q.Items, r.item()) })
	}
	r.need("FROM")
	q.Table = r.name()
	if r.took("WHERE") {
		q.Where = r.any()
	}
	if r.took("GROUP") {
		r.need("BY")
		r.list(api.MaxItems, func() { q.Group = append(q.Group, r.column()) })
	}
	if r.took("ORDER") {
		r.need("BY")
		r.list(api.MaxItems, func() { q.Order = append(q.Order, r.key()) })
	}
	if r.took("LIMIT") {
		q.Limit = r.limit()
	}
	r.end()
	return q
}

// column: an item that is no aggregate.
func (r *reader) column() api.Item {
	at := r.comes().At
	return api.Item{Column: r.name(), At: at}
}

// item: a column, or an aggregate.
func (r *reader) item() api.Item {
	at := r.comes().At
	x := api.Item{Agg: r.aggregate(), At: at}
	if x.Agg == api.Plain {
		return r.column()
	}
	r.need("(")
	if x.Agg == api.Count && r.took("*") {
		x.Agg = api.Rows
	} else {
		x.Column = r.name()
	}
	r.need(")")
	return x
}

// aggregate: the one whose word comes.
func (r *reader) aggregate() api.Agg {
	switch {
	case r.took("COUNT"):
		return api.Count
	case r.took("SUM"):
		return api.Sum
	case r.took("MIN"):
		return api.Min
	case r.took("MAX"):
		return api.Max
	}
	return api.Plain
}

// key: an item to order by.
func (r *reader) key() api.Key {
	k := api.Key{Item: r.item()}
	if !r.took("ASC") {
		k.Desc = r.took("DESC")
	}
	return k
}

// limit: the number that comes.
func (r *reader) limit() int {
	t := r.comes()
	if t.Kind != api.TNum {
		r.wrong(api.ErrSyntax)
		return 0
	}
	// A TNum is a value's text, so there is no error to look at.
	v, _ := value.Read(t.Text)
	if v.Num < 0 || v.Num > api.MaxLimit {
		r.wrong(api.ErrRange)
		return 0
	}
	r.pass()
	return v.Num
}
