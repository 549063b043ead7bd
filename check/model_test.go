package check

import (
	"maps"
	"reflect"
	"slices"
	"strings"
	"testing"

	"stillroom/api"
	"stillroom/parse"
)

// dice: numbers that are the same each time.
type dice uint64

func (d *dice) throw(n int) int {
	*d = *d*6364136223846793005 + 1442695040888963407
	return int(uint64(*d) >> 33 % uint64(n))
}

// name: of a column, seldom of none.
func (d *dice) name() string {
	if d.throw(40) == 0 {
		return []string{"y", "z", "tt"}[d.throw(3)]
	}
	return string(rune('a' + d.throw(6)))
}

// fit: a literal for a column; seldom of another kind.
func (d *dice) fit(name string) string {
	k, ok := kinds()[name]
	if d.throw(40) == 0 || !ok {
		k = api.Kind(d.throw(3) + 1)
	}
	switch {
	case d.throw(6) == 0:
		return "NULL"
	case k == api.Bool:
		return []string{"TRUE", "FALSE"}[d.throw(2)]
	case k == api.Int:
		return []string{"0", "-7", "12"}[d.throw(3)]
	}
	return []string{"''", "'x'", "'it''s'"}[d.throw(3)]
}

// list: some texts, at most so many, with commas between.
func (d *dice) list(most int, next func() string) string {
	l := []string{next()}
	for len(l) < most && d.throw(2) == 0 {
		l = append(l, next())
	}
	return strings.Join(l, ", ")
}

// item: an aggregate, if plain is 0; else seldom one.
func (d *dice) item(plain int) string {
	name := d.name()
	switch n := d.throw(6); {
	case plain > 0 && d.throw(30) > 0:
		return name
	case n == 0:
		return "COUNT(*)"
	case n == 1 && d.throw(4) > 0:
		return "SUM(" + []string{"a", "d"}[d.throw(2)] + ")"
	default:
		return []string{"COUNT", "SUM", "MIN", "MAX", "COUNT", "MIN"}[n] + "(" + name + ")"
	}
}

// mixed: an item, a plain one just of names.
func (d *dice) mixed(names []string) string {
	if len(names) == 0 || d.throw(2) == 0 {
		return d.item(0)
	}
	return names[d.throw(len(names))]
}

// alone: a predicate without others in it.
func (d *dice) alone() string {
	name := d.name()
	sign := " " + signs()[d.throw(6)] + " "
	not := []string{" ", " NOT "}[d.throw(2)]
	switch d.throw(9) {
	case 0:
		return d.fit(name) + sign + name
	case 1:
		return d.fit(name) + sign + d.fit(name)
	case 2:
		other := d.name()
		if d.throw(10) > 0 {
			other = name
		}
		return name + sign + other
	case 3:
		return name + not + "IN (" + d.list(api.MaxList, func() string { return d.fit(name) }) + ")"
	case 4:
		return name + not + "BETWEEN " + d.fit(name) + " AND " + d.fit(name)
	case 5:
		return name + " IS" + not + "NULL"
	case 6:
		return []string{"TRUE", "FALSE"}[d.throw(2)]
	}
	return name + sign + d.fit(name)
}

// pred: a predicate, so deep at most.
func (d *dice) pred(deep int) string {
	if deep == 0 || d.throw(3) == 0 {
		return d.alone()
	}
	switch d.throw(4) {
	case 0:
		return "NOT " + d.pred(deep-1)
	case 1:
		return "(" + d.pred(deep-1) + ")"
	case 2:
		return "(" + d.pred(deep-1) + ") OR " + d.pred(deep-1)
	}
	return d.pred(deep-1) + " AND " + d.pred(deep-1)
}

// query: one of the table's, most of them right, many grouped.
func (d *dice) query() string {
	var names []string
	item := func() string { return d.item(1) }
	behind := ""
	switch d.throw(5) {
	case 0:
		names = strings.Split(d.list(api.MaxItems, d.name), ", ")
		slices.Sort(names)
		if d.throw(8) > 0 {
			names = slices.Compact(names)
		}
		behind = " GROUP BY " + strings.Join(names, ", ")
		fallthrough
	case 1:
		item = func() string { return d.mixed(names) }
		if d.throw(10) == 0 {
			item = func() string { return d.item(d.throw(4)) }
		}
	}
	text := "SELECT " + d.list(api.MaxItems, item) + " FROM t"
	if d.throw(5) == 0 {
		text = "SELECT * FROM t"
	}
	if d.throw(3) > 0 {
		text += " WHERE " + d.pred(3)
	}
	text += behind
	if d.throw(2) == 0 {
		text += " ORDER BY " + d.list(api.MaxItems, func() string { return item() + []string{"", " ASC", " DESC"}[d.throw(3)] })
	}
	return text + []string{"", " LIMIT 3"}[d.throw(2)]
}

// made: a query's text, and its tree, of one that isn't too long.
func (d *dice) made() (string, api.Query) {
	for {
		text := d.query()
		if q, _, e := parse.Parse(text); e == api.OK {
			return text, q
		}
	}
}

// model tells all that is wrong with a query, in order, by the chapter's words.
type model struct {
	kinds map[string]api.Kind
	at    []int
	e     []api.Errno
}

func (m *model) tell(at int, e api.Errno) {
	m.at, m.e = append(m.at, at), append(m.e, e)
}

// there: are all columns? If not, that is told.
func (m *model) there(at int, names ...string) bool {
	for _, name := range names {
		if m.kinds[name] == api.Null {
			m.tell(at, api.ErrColumn)
			return false
		}
	}
	return true
}

func (m *model) item(x api.Item) {
	if x.Agg != api.Rows && m.there(x.At, x.Column) && x.Agg == api.Sum && m.kinds[x.Column] != api.Int {
		m.tell(x.At, api.ErrType)
	}
}

// differ: two kinds that aren't one.
func differ(a, b api.Kind) bool {
	return a != b && a != api.Null && b != api.Null
}

func (m *model) pred(p api.Pred) {
	for _, kid := range p.Kids {
		m.pred(kid)
	}
	clash := false
	k := m.kinds[p.Column]
	switch p.Kind {
	case api.PCompare:
		clash = m.there(p.At, p.Column) && differ(k, p.Value.Kind)
	case api.PColumns:
		clash = m.there(p.At, p.Column, p.Other) && differ(k, m.kinds[p.Other])
	case api.PConst:
		clash = differ(p.Value.Kind, p.List[0].Kind)
	case api.PIn:
		clash = m.there(p.At, p.Column) && slices.ContainsFunc(p.List, func(v api.Value) bool { return differ(k, v.Kind) })
	case api.PNull, api.PSome:
		m.there(p.At, p.Column)
	}
	if clash {
		m.tell(p.At, api.ErrType)
	}
}

func (m *model) query(q api.Query) {
	for _, x := range q.Items {
		m.item(x)
	}
	m.pred(q.Where)
	by := map[string]int{}
	for _, x := range q.Group {
		m.item(x)
		if by[x.Column]++; by[x.Column] == 2 {
			m.tell(x.At, api.ErrTwice)
		}
	}
	all, aggregates := slices.Clone(q.Items), 0
	for _, k := range q.Order {
		m.item(k.Item)
		all = append(all, k.Item)
	}
	for _, x := range all {
		if x.Agg != api.Plain {
			aggregates++
		}
	}
	if len(by) == 0 && aggregates == 0 {
		return
	}
	if q.All {
		m.tell(0, api.ErrGroup)
	}
	for _, x := range all {
		if x.Agg == api.Plain && by[x.Column] == 0 {
			m.tell(x.At, api.ErrGroup)
		}
	}
}

// P12.1: many queries are told as the model tells them.
func TestModel(t *testing.T) {
	d := dice(1)
	met := map[api.Errno]int{}
	for range 40000 {
		text, q := d.made()
		m := model{kinds: kinds()}
		m.query(q)
		met[append(m.e, api.OK)[0]]++
		if len(m.e) == 0 {
			right(t, text)
			continue
		}
		if got, at, e := Check(q, catalog()); at != m.at[0] || e != m.e[0] || !reflect.DeepEqual(got, api.Query{}) {
			t.Fatalf("Check(%s): %+v, %d, %d, want %d, %d", text, got, at, e, m.at[0], m.e[0])
		}
	}
	for _, e := range []api.Errno{api.OK, api.ErrColumn, api.ErrType, api.ErrGroup, api.ErrTwice} {
		if met[e] < 100 {
			t.Errorf("met %d of error %d", met[e], e)
		}
	}
}

// named: the columns of a text, told by its tokens: what is no word, and stands behind no FROM.
func named(text string) []string {
	found := map[string]int{}
	front := ""
	for _, s := range strings.FieldsFunc(text, func(c rune) bool { return strings.ContainsRune(" (),<>=", c) }) {
		if front != "FROM" && s[0] >= 'a' && s[0] <= 'z' {
			found[s]++
		}
		front = s
	}
	return slices.Sorted(maps.Keys(found))
}

// P12.1: Columns and Grouped, of many queries.
func TestModelWords(t *testing.T) {
	d := dice(2)
	for range 20000 {
		text, q := d.made()
		if got := Columns(q); !slices.Equal(got, named(text)) {
			t.Fatalf("Columns(%s): %q, want %q", text, got, named(text))
		}
		grouped := false
		for _, s := range []string{"GROUP", "COUNT", "SUM", "MIN", "MAX"} {
			grouped = grouped || strings.Contains(text, s)
		}
		if got := Grouped(q); got != grouped {
			t.Fatalf("Grouped(%s): %v", text, got)
		}
	}
}

// others: tables that have the asked one's columns, of other kinds.
func others() []api.Table {
	var l []api.Table
	for _, k := range []api.Kind{api.Bool, api.Int, api.Text} {
		x := asking()
		x.Name = "o" + strings.Repeat("_", len(l))
		for n := range x.Columns {
			x.Columns[n].Kind = k
		}
		x.Columns = append(x.Columns, column("z", k, true))
		l = append(l, x)
	}
	return l
}

// P12.2: whether a query is right hangs on its table's columns alone.
func TestTableAlone(t *testing.T) {
	keyed := asking()
	keyed.Keys = 6
	for n := range keyed.Columns {
		keyed.Columns[n].Null = false
	}
	d := dice(3)
	for range 2000 {
		text, q := d.made()
		want, place, e := Check(q, []api.Table{asking()})
		l := others()
		for _, catalog := range [][]api.Table{
			append(l, asking()), append([]api.Table{asking()}, l...), append(others()[:1], append([]api.Table{asking()}, l[1:]...)...), {keyed},
		} {
			if got, at, f := Check(q, catalog); at != place || f != e || !same(got, want) {
				t.Fatalf("Check(%s): %+v, %d, %d, want %+v, %d, %d", text, got, at, f, want, place, e)
			}
		}
	}
}
