package parse

import (
	"strconv"
	"strings"

	"stillroom/api"
	"stillroom/lex"
)

// dice: numbers that are the same each time.
type dice uint64

func (d *dice) throw(n int) int {
	*d = *d*6364136223846793005 + 1442695040888963407
	return int(uint64(*d) >> 33 % uint64(n))
}

func (d *dice) one(l ...string) string {
	return l[d.throw(len(l))]
}

// maker writes a query, token by token, and makes its tree beside it; till it is laid out a place is that of a token among them.
type maker struct {
	*dice
	words []string
}

// say: one token more; its place.
func (m *maker) say(s string) int {
	m.words = append(m.words, s)
	return len(m.words) - 1
}

// list: up to so many things with commas between.
func (m *maker) list(most int, next func()) {
	next()
	for n := 1; n < most && m.throw(3) > 0; n++ {
		m.say(",")
		next()
	}
}

func (m *maker) name() string {
	s := m.one("a", "b", "c_1", "stock", "select", strings.Repeat("z", api.MaxName))
	m.say(s)
	return s
}

func (m *maker) column() api.Item {
	return api.Item{At: len(m.words), Column: m.name()}
}

func (m *maker) item() api.Item {
	agg := api.Agg(max(0, m.throw(9)-3))
	x := api.Item{Agg: agg, At: len(m.words)}
	switch agg {
	case api.Plain:
		return m.column()
	case api.Rows:
		m.say("COUNT")
		m.say("(")
		m.say("*")
	default:
		m.say([]string{"COUNT", "SUM", "MIN", "MAX"}[agg-api.Count])
		m.say("(")
		x.Column = m.name()
	}
	m.say(")")
	return x
}

func (m *maker) key() api.Key {
	k := api.Key{Item: m.item()}
	switch m.throw(3) {
	case 0:
		m.say("ASC")
	case 1:
		m.say("DESC")
		k.Desc = true
	}
	return k
}

func (m *maker) literal() api.Value {
	n := m.throw(9)
	v := []api.Value{
		{}, {Kind: api.Bool}, {Kind: api.Bool, Num: 1},
		{Kind: api.Int}, {Kind: api.Int, Num: -5}, {Kind: api.Int, Num: 1<<63 - 1},
		{Kind: api.Text}, {Kind: api.Text, Text: "it's\n"}, {Kind: api.Text, Text: "NULL"},
	}[n]
	m.say([]string{"NULL", "FALSE", "TRUE", "0", "-5", "9223372036854775807", "''", `'it''s\0a'`, "'NULL'"}[n])
	return v
}

// rel: a comparison; turned: the one of the same two, the other way about.
func (m *maker) rel() (rel, turned api.Rel) {
	n := m.throw(6)
	m.say([]string{"=", "<>", "<", "<=", ">", ">="}[n])
	return api.Rel(n + 1), []api.Rel{api.Eq, api.Ne, api.Gt, api.Ge, api.Lt, api.Le}[n]
}

func (m *maker) any(room int) api.Pred {
	return m.parts(api.POr, "OR", func() api.Pred {
		return m.parts(api.PAnd, "AND", func() api.Pred { return m.pred(room) })
	})
}

func (m *maker) parts(kind int, word string, part func() api.Pred) api.Pred {
	p := api.Pred{Kind: kind, At: len(m.words), Kids: []api.Pred{part()}}
	for m.throw(3) == 0 {
		m.say(word)
		p.Kids = append(p.Kids, part())
	}
	if len(p.Kids) == 1 {
		return p.Kids[0]
	}
	return p
}

// pred: a one; so many may stand in one another.
func (m *maker) pred(room int) api.Pred {
	at := len(m.words)
	switch n := m.throw(12); {
	case n < 2 && room > 1:
		m.say("NOT")
		return api.Pred{Kind: api.PNot, At: at, Kids: []api.Pred{m.pred(room - 1)}}
	case n < 4 && room > 1:
		m.say("(")
		p := m.any(room - 1)
		m.say(")")
		return p
	case n == 4:
		m.say("TRUE")
		return api.Pred{Kind: api.PTrue, At: at}
	case n == 5:
		m.say("FALSE")
		return api.Pred{Kind: api.PFalse, At: at}
	case n < 8:
		v := m.literal()
		rel, turned := m.rel()
		if m.throw(2) == 0 {
			return api.Pred{Kind: api.PCompare, Value: v, Rel: turned, Column: m.name(), At: at}
		}
		return api.Pred{Kind: api.PConst, Value: v, Rel: rel, List: []api.Value{m.literal()}, At: at}
	}
	return m.named(at)
}

// named: a one that begins with a name.
func (m *maker) named(at int) api.Pred {
	name := m.name()
	p := api.Pred{Column: name, At: at}
	switch m.throw(8) {
	case 0:
		m.say("IS")
		m.say("NULL")
		p.Kind = api.PNull
	case 1:
		m.say("IS")
		m.say("NOT")
		m.say("NULL")
		p.Kind = api.PSome
	case 2:
		m.say("NOT")
		return api.Pred{Kind: api.PNot, At: at, Kids: []api.Pred{m.in(p)}}
	case 3:
		return m.in(p)
	case 4:
		m.say("NOT")
		return api.Pred{Kind: api.PNot, At: at, Kids: []api.Pred{m.between(p)}}
	case 5:
		return m.between(p)
	case 6:
		p.Kind = api.PColumns
		p.Rel, _ = m.rel()
		p.Other = m.name()
	default:
		p.Kind = api.PCompare
		p.Rel, _ = m.rel()
		p.Value = m.literal()
	}
	return p
}

func (m *maker) in(p api.Pred) api.Pred {
	p.Kind = api.PIn
	m.say("IN")
	m.say("(")
	m.list(api.MaxList, func() { p.List = append(p.List, m.literal()) })
	m.say(")")
	return p
}

func (m *maker) between(p api.Pred) api.Pred {
	least := p
	m.say("BETWEEN")
	least.Kind, least.Rel, least.Value = api.PCompare, api.Ge, m.literal()
	m.say("AND")
	most := p
	most.Kind, most.Rel, most.Value = api.PCompare, api.Le, m.literal()
	return api.Pred{Kind: api.PAnd, At: p.At, Kids: []api.Pred{least, most}}
}

func (m *maker) query() api.Query {
	q := api.Query{Limit: -1}
	m.say("SELECT")
	if m.throw(4) == 0 {
		m.say("*")
		q.All = true
	} else {
		m.list(api.MaxItems, func() { q.Items = append(q.Items, m.item()) })
	}
	m.say("FROM")
	q.Table = m.name()
	if m.throw(4) > 0 {
		m.say("WHERE")
		q.Where = m.any(api.MaxDeep)
	}
	if m.throw(2) == 0 {
		m.say("GROUP")
		m.say("BY")
		m.list(api.MaxItems, func() { q.Group = append(q.Group, m.column()) })
	}
	if m.throw(2) == 0 {
		m.say("ORDER")
		m.say("BY")
		m.list(api.MaxItems, func() { q.Order = append(q.Order, m.key()) })
	}
	if m.throw(2) == 0 {
		m.say("LIMIT")
		q.Limit = []int{0, 1, 10, 999, api.MaxLimit}[m.throw(5)]
		m.say(strconv.Itoa(q.Limit))
	}
	return q
}

// lay: the tokens as a text, and where each stands in it. Blanks may lack at a sign.
func (m *maker) lay() (string, []int) {
	var b strings.Builder
	var at []int
	sign := true
	for _, w := range m.words {
		before := sign
		sign = strings.Contains("<>=*,()", w[:1])
		if before || sign {
			b.WriteString(m.one("", "", " ", "\n"))
		} else {
			b.WriteString(m.one(" ", " ", "\t\r", "  "))
		}
		at = append(at, b.Len())
		b.WriteString(w)
	}
	b.WriteString(m.one("", "", " "))
	return b.String(), at
}

// moved: a query with each place that of at.
func moved(q api.Query, at []int) api.Query {
	for n := range q.Items {
		q.Items[n].At = at[q.Items[n].At]
	}
	for n := range q.Group {
		q.Group[n].At = at[q.Group[n].At]
	}
	for n := range q.Order {
		q.Order[n].Item.At = at[q.Order[n].Item.At]
	}
	if q.Where.Kind != 0 {
		q.Where = movedPred(q.Where, at)
	}
	return q
}

func movedPred(p api.Pred, at []int) api.Pred {
	p.At = at[p.At]
	for n := range p.Kids {
		p.Kids[n] = movedPred(p.Kids[n], at)
	}
	return p
}

// made: a query's text, and its tree, of one that isn't too long.
func made(d *dice) (string, api.Query) {
	for {
		m := maker{dice: d}
		q := m.query()
		text, at := m.lay()
		if _, _, e := lex.Lex(text); e == api.OK {
			return text, moved(q, at)
		}
	}
}
