package norm

import (
	"math"
	"slices"
	"sort"
	"strings"
	"testing"

	"stillroom/api"
	"stillroom/parse"
	"stillroom/sieve"
)

// model makes normal forms by the chapter's words, one after the other, by calls within calls.
type model struct {
	api.Table
}

func (m model) may(name string) (api.Kind, bool) {
	for _, c := range m.Columns {
		if c.Name == name {
			return c.Kind, c.Null
		}
	}
	panic("no column " + name)
}

// order: of two values.
func order(a, b api.Value) int {
	switch {
	case a == b:
		return 0
	case a.Kind < b.Kind, a.Kind == b.Kind && (a.Num < b.Num || a.Text < b.Text):
		return -1
	}
	return 1
}

// holds: a comparison of two values; it doesn't of null.
func holds(rel api.Rel, a, b api.Value) bool {
	c := order(a, b)
	return a.Kind != api.Null && b.Kind != api.Null && []bool{c == 0, c != 0, c < 0, c <= 0, c > 0, c >= 0}[rel-1]
}

func only(b bool) api.Pred {
	if b {
		return api.Pred{Kind: api.PTrue}
	}
	return api.Pred{Kind: api.PFalse}
}

// not: with NOT taken inwards, of p with NOT ahead, or without.
func (m model) not(p api.Pred, not bool) api.Pred {
	opposite := []api.Rel{0, api.Ne, api.Eq, api.Ge, api.Gt, api.Le, api.Lt}
	turned := []api.Rel{0, api.Eq, api.Ne, api.Gt, api.Ge, api.Lt, api.Le}
	if not && p.Rel > 0 {
		p.Rel = opposite[p.Rel]
	}
	p.At = 0
	switch p.Kind {
	case 0, api.PTrue:
		return only(!not)
	case api.PFalse:
		return only(not)
	case api.PNot:
		return m.not(p.Kids[0], !not)
	case api.PAnd, api.POr:
		out := api.Pred{Kind: p.Kind}
		if not {
			out.Kind = map[int]int{api.PAnd: api.POr, api.POr: api.PAnd}[p.Kind]
		}
		for _, kid := range p.Kids {
			out.Kids = append(out.Kids, m.not(kid, not))
		}
		return out
	case api.PConst:
		return only(holds(p.Rel, p.Value, p.List[0]))
	case api.PNull, api.PSome:
		if (p.Kind == api.PSome) != not {
			return api.Pred{Kind: api.PSome, Column: p.Column}
		}
		if _, null := m.may(p.Column); !null {
			return only(false)
		}
		return api.Pred{Kind: api.PNull, Column: p.Column}
	case api.PColumns:
		if p.Column == p.Other && holds(p.Rel, num(0), num(0)) {
			return api.Pred{Kind: api.PSome, Column: p.Column}
		}
		if p.Column == p.Other {
			return only(false)
		}
		if p.Column > p.Other {
			p.Column, p.Other, p.Rel = p.Other, p.Column, turned[p.Rel]
		}
		return p
	case api.PIn:
		return m.in(p, not)
	}
	if p.Value.Kind == api.Null {
		return only(false)
	}
	return p
}

// sorted: rising, each once.
func sorted(l []api.Value) []api.Value {
	var out []api.Value
	for _, v := range l {
		if !slices.Contains(out, v) {
			out = append(out, v)
		}
	}
	sort.Slice(out, func(a, b int) bool { return order(out[a], out[b]) < 0 })
	return out
}

func (m model) in(p api.Pred, not bool) api.Pred {
	var l []api.Value
	for _, v := range sorted(p.List) {
		if v.Kind != api.Null {
			l = append(l, v)
		} else if not {
			return only(false)
		}
	}
	if !not {
		return listed(p.Column, l)
	}
	out := api.Pred{Kind: api.PAnd}
	for _, v := range l {
		out.Kids = append(out.Kids, api.Pred{Kind: api.PCompare, Column: p.Column, Rel: api.Ne, Value: v})
	}
	return out
}

func listed(name string, l []api.Value) api.Pred {
	switch len(l) {
	case 0:
		return only(false)
	case 1:
		return api.Pred{Kind: api.PCompare, Column: name, Rel: api.Eq, Value: l[0]}
	}
	return api.Pred{Kind: api.PIn, Column: name, List: l}
}

// place: a value, or, of texts, what stands just behind it (behind null: ahead of all).
type place struct {
	v      api.Value
	behind bool
}

// fulfils: what stands at a place all facts.
func (x place) fulfils(facts []api.Pred) bool {
	for _, p := range facts {
		switch {
		case p.Kind == api.PIn && (x.behind || !slices.Contains(p.List, x.v)):
			return false
		case p.Kind == api.PCompare && x.behind:
			// It is ahead of each value that the one ahead of it is ahead of, and behind the others.
			ahead := order(x.v, p.Value) < 0
			if !slices.Contains(map[bool][]api.Rel{true: {api.Ne, api.Lt, api.Le}, false: {api.Ne, api.Gt, api.Ge}}[ahead], p.Rel) {
				return false
			}
		case p.Kind == api.PCompare && !holds(p.Rel, x.v, p.Value):
			return false
		}
	}
	return true
}

// places: all that may differ by facts, rising.
func places(k api.Kind, facts []api.Pred) []place {
	var l []api.Value
	for _, p := range facts {
		l = append(l, p.List...)
		if p.Kind == api.PCompare {
			l = append(l, p.Value)
		}
	}
	switch k {
	case api.Bool:
		l = []api.Value{{Kind: api.Bool}, {Kind: api.Bool, Num: 1}}
	case api.Int:
		for _, v := range slices.Clone(l) {
			if v.Num > math.MinInt {
				l = append(l, num(v.Num-1))
			}
			if v.Num < math.MaxInt {
				l = append(l, num(v.Num+1))
			}
		}
		l = append(l, num(math.MinInt), num(math.MaxInt))
	}
	var out []place
	if k == api.Text {
		out = append(out, place{behind: true})
	}
	for _, v := range sorted(l) {
		out = append(out, place{v: v})
		if k == api.Text {
			out = append(out, place{v, true})
		}
	}
	return out
}

// tells: what an AND tells of a column by its facts.
func (m model) tells(name string, facts []api.Pred) []api.Pred {
	k, null := m.may(name)
	some := []api.Pred{{Kind: api.PSome, Column: name}}
	if !null {
		some = nil
	}
	nulls, list := 0, k == api.Bool
	for _, p := range facts {
		if p.Kind == api.PNull {
			nulls++
		}
		list = list || p.Kind == api.PIn || p.Kind == api.PCompare && p.Rel == api.Eq
	}
	if nulls > 0 && nulls < len(facts) {
		return []api.Pred{only(false)}
	}
	if nulls > 0 {
		return facts[:1]
	}
	all := places(k, facts)
	var left []place
	for _, x := range all {
		if x.fulfils(facts) {
			left = append(left, x)
		}
	}
	switch {
	case len(left) == 0:
		return []api.Pred{only(false)}
	case k == api.Bool && len(left) == 2:
		return some
	case list || len(left) == 1 && !left[0].behind:
		var l []api.Value
		for _, x := range left {
			l = append(l, x.v)
		}
		return []api.Pred{listed(name, l)}
	}
	if out := ends(name, all, left); len(out) > 0 {
		return out
	}
	return some
}

// ends: the bounds of what is left of all places, and what isn't between.
func ends(name string, all, left []place) []api.Pred {
	compare := func(rel api.Rel, v api.Value) api.Pred {
		return api.Pred{Kind: api.PCompare, Column: name, Rel: rel, Value: v}
	}
	first, last := slices.Index(all, left[0]), slices.Index(all, left[len(left)-1])
	var out []api.Pred
	switch low := all[first]; {
	case low.behind && low.v.Kind != api.Null:
		out = append(out, compare(api.Gt, low.v))
	case !low.behind && low.v != num(math.MinInt):
		out = append(out, compare(api.Ge, low.v))
	}
	switch high := all[last]; {
	case high.behind && last+1 < len(all):
		out = append(out, compare(api.Lt, all[last+1].v))
	case !high.behind && high.v != num(math.MaxInt):
		out = append(out, compare(api.Le, high.v))
	}
	for _, x := range all[first:last] {
		if !slices.Contains(left, x) {
			out = append(out, compare(api.Ne, x.v))
		}
	}
	return out
}

// before: by the order of predicates.
func before(a, b api.Pred) int {
	lists := func(l, m []api.Value) int {
		for n := range min(len(l), len(m)) {
			if c := order(l[n], m[n]); c != 0 {
				return c
			}
		}
		return order(num(len(l)), num(len(m)))
	}
	for _, c := range []int{
		order(num(a.Kind), num(b.Kind)), strings.Compare(a.Column, b.Column), order(num(int(a.Rel)), num(int(b.Rel))), order(a.Value, b.Value), strings.Compare(a.Other, b.Other), lists(a.List, b.List),
	} {
		if c != 0 {
			return c
		}
	}
	for n := range min(len(a.Kids), len(b.Kids)) {
		if c := before(a.Kids[n], b.Kids[n]); c != 0 {
			return c
		}
	}
	return order(num(len(a.Kids)), num(len(b.Kids)))
}

// form: the normal form of a predicate with NOT taken inwards.
func (m model) form(p api.Pred) api.Pred {
	if p.Kind != api.PAnd && p.Kind != api.POr {
		p = api.Pred{Kind: api.PAnd, Kids: []api.Pred{p}}
	}
	var kids []api.Pred
	for _, kid := range p.Kids {
		if kid.Kind == api.PAnd || kid.Kind == api.POr || p.Kind == api.POr {
			kid = m.form(kid)
		}
		if kid.Kind == p.Kind {
			kids = append(kids, kid.Kids...)
		} else {
			kids = append(kids, kid)
		}
	}
	decisive, rest := api.PTrue, api.PFalse
	if p.Kind == api.PAnd {
		decisive, rest = rest, decisive
		kids = m.columns(kids)
	}
	var out []api.Pred
	for _, kid := range kids {
		if kid.Kind == decisive {
			return kid
		}
		same := func(x api.Pred) bool { return before(x, kid) == 0 }
		if kid.Kind != rest && !slices.ContainsFunc(out, same) {
			out = append(out, kid)
		}
	}
	slices.SortFunc(out, before)
	switch len(out) {
	case 0:
		return api.Pred{Kind: rest}
	case 1:
		return out[0]
	}
	return api.Pred{Kind: p.Kind, Kids: out}
}

// columns: the Kids of an AND, of each column what it tells.
func (m model) columns(kids []api.Pred) []api.Pred {
	is := []int{api.PCompare, api.PIn, api.PNull, api.PSome}
	var out []api.Pred
	for _, kid := range kids {
		if !slices.Contains(is, kid.Kind) {
			out = append(out, kid)
		}
	}
	for _, c := range m.Columns {
		var facts []api.Pred
		for _, kid := range kids {
			if slices.Contains(is, kid.Kind) && kid.Column == c.Name {
				facts = append(facts, kid)
			}
		}
		if len(facts) > 0 {
			out = append(out, m.tells(c.Name, facts)...)
		}
	}
	return out
}

// P14.1: of many tables and predicates each call answers as the model does, the same each time (R8).
func TestModel(t *testing.T) {
	d := dice(1)
	met := map[int]int{}
	for n := range 60000 {
		x := d.table()
		p := d.pred(x, n%5)
		m := model{x}
		want := m.form(m.not(p, false))
		met[want.Kind]++
		for range 2 {
			if got := Pred(x, p); !parse.SamePred(got, want) || placed(got) {
				t.Fatalf("Pred of %+v of %+v: %+v, want %+v", p, x, got, want)
			}
		}
	}
	for _, k := range []int{api.PTrue, api.PFalse, api.PCompare, api.PColumns, api.PIn, api.PNull, api.PSome, api.PAnd, api.POr} {
		if met[k] < 500 {
			t.Errorf("met %d of kind %d", met[k], k)
		}
	}
}

// P14.1: of many facts of one column an AND tells what the model does.
func TestModelColumn(t *testing.T) {
	d := dice(2)
	for n := range 60000 {
		x := api.Table{Name: "t", Keys: 1, Columns: []api.Column{column("k", api.Int, false), column("a", api.Kind(n%3+1), n%2 == 0)}}
		p := api.Pred{Kind: api.PAnd}
		for range d.throw(8) + 1 {
			one := api.Table{Columns: x.Columns[1:]}
			p.Kids = append(p.Kids, d.of(one, []int{api.PCompare, api.PCompare, api.PCompare, api.PCompare, api.PCompare, api.PIn, api.PSome}[d.throw(7)], 0))
			kid := &p.Kids[len(p.Kids)-1]
			// An = would be too often there to leave bounds.
			if kid.Kind == api.PCompare && kid.Rel == api.Eq {
				kid.Rel = api.Ne
			}
			if kid.Kind == api.PIn {
				*kid = api.Pred{Kind: api.PNot, Kids: []api.Pred{*kid}}
			}
		}
		m := model{x}
		if got, want := Pred(x, p), m.form(m.not(p, false)); !parse.SamePred(got, want) {
			t.Fatalf("Pred of %+v of %+v: %+v, want %+v", p, x, got, want)
		}
	}
}

// P14.1: Compare of many predicates, as the model does; it is an order.
func TestModelCompare(t *testing.T) {
	d := dice(3)
	for range 20000 {
		x := d.table()
		p, q := d.pred(x, 2), d.pred(x, 2)
		if d.throw(2) == 0 {
			p, q = Pred(x, p), Pred(x, q)
		}
		if got := Compare(p, q); got != before(p, q) || Compare(q, p) != -got || (got == 0) != parse.SamePred(p, q) {
			t.Fatalf("Compare of %+v and %+v: %d", p, q, got)
		}
		if Compare(p, p) != 0 {
			t.Fatalf("Compare of %+v and itself", p)
		}
	}
}

// P14.2: the normal form lets just the rows pass that the predicate does.
func TestSameRows(t *testing.T) {
	d := dice(4)
	met := map[bool]int{}
	for n := range 20000 {
		x := d.table()
		p := d.pred(x, n%5)
		q := Pred(x, p)
		w := Query(x, api.Query{Table: "t", Where: p, Limit: -1}).Where
		for range 25 {
			r := d.row(x)
			want := sieve.Passes(x, p, r)
			met[want]++
			if sieve.Passes(x, q, r) != want || sieve.Passes(x, w, r) != want {
				t.Fatalf("Pred of %+v of %+v: %+v: not the same for %v, want %v", p, x, q, r, want)
			}
		}
	}
	if met[true] < 50000 || met[false] < 50000 {
		t.Errorf("met %v", met)
	}
}

// P14.3: a normal form's normal form is itself; the order of Kids, brackets, parts that come twice don't change it.
func TestItself(t *testing.T) {
	d := dice(5)
	for n := range 20000 {
		x := d.table()
		p := d.pred(x, n%5)
		q := Pred(x, p)
		if got := Pred(x, q); !parse.SamePred(got, q) {
			t.Fatalf("Pred of the normal form %+v: %+v", q, got)
		}
		for range 3 {
			s := d.stirred(p)
			if got := Pred(x, s); !parse.SamePred(got, q) {
				t.Fatalf("Pred of %+v of %+v: %+v; of %+v: %+v", p, x, q, s, got)
			}
		}
	}
}

// P14.3: likewise, of queries.
func TestQueryItself(t *testing.T) {
	for _, s := range []string{
		"SELECT * FROM t WHERE NOT (a = 1 OR b = 'x') ORDER BY a, b DESC, a DESC LIMIT 3", "SELECT e, MAX(a) FROM t WHERE d IN (3, 1, NULL) GROUP BY e, a, d ORDER BY MAX(a), a, MAX(a)", "SELECT COUNT(*) FROM t WHERE TRUE ORDER BY COUNT(*)", "SELECT b FROM t WHERE a = NULL",
	} {
		q := Query(asking(), checked(t, s))
		if got := Query(asking(), q); !parse.Same(got, q) {
			t.Errorf("Query of the normal form %+v: %+v", q, got)
		}
	}
}
