package parse

import (
	"reflect"
	"runtime/debug"
	"slices"
	"testing"

	"stillroom/api"
)

// sample: a query that has something in every field.
func sample() api.Query {
	q, _, _ := Parse("SELECT a, COUNT(*), SUM(b) FROM t WHERE (5 < a OR b = c OR NOT a IN (1, NULL, 'x')) AND 1 = 2 AND a NOT BETWEEN 1 AND 2 GROUP BY a, b ORDER BY a, MAX(b) DESC LIMIT 7")
	return q
}

// preds: all predicates of a tree.
func preds(p *api.Pred) []*api.Pred {
	l := []*api.Pred{p}
	for n := range p.Kids {
		l = append(l, preds(&p.Kids[n])...)
	}
	return l
}

// items: all items of a query.
func items(q *api.Query) []*api.Item {
	var l []*api.Item
	for n := range q.Items {
		l = append(l, &q.Items[n])
	}
	for n := range q.Group {
		l = append(l, &q.Group[n])
	}
	for n := range q.Order {
		l = append(l, &q.Order[n].Item)
	}
	return l
}

// spoiltPred: a predicate with one field changed, by a number from 0; whether there are so many.
func spoiltPred(p *api.Pred, n int) bool {
	switch n {
	case 0:
		p.Kind++
	case 1:
		p.Column += "x"
	case 2:
		p.Rel++
	case 3:
		p.Value.Kind++
	case 4:
		p.Value.Num++
	case 5:
		p.Value.Text += "x"
	case 6:
		p.Other += "x"
	case 7:
		p.List = append(slices.Clone(p.List), api.Value{})
	case 8:
		p.List = append([]api.Value{{Num: 1}}, p.List...)
	case 9:
		p.Kids = append(slices.Clone(p.Kids), api.Pred{})
	case 10:
		p.Kids = append([]api.Pred{{Kind: api.PTrue}}, p.Kids...)
	default:
		return false
	}
	return true
}

// P11.1: Same and SamePred see each field of each part of a tree, but places.
func TestSameFields(t *testing.T) {
	different := func(what string, n, m int, q api.Query) {
		t.Helper()
		if Same(q, sample()) || Same(sample(), q) {
			t.Errorf("%s %d, field %d changed: the same", what, n, m)
		}
	}
	q := sample()
	count := len(preds(&q.Where))
	for n := range count {
		q = sample()
		for m := 0; spoiltPred(preds(&q.Where)[n], m); m++ {
			different("predicate", n, m, q)
			if SamePred(q.Where, sample().Where) || SamePred(sample().Where, q.Where) {
				t.Errorf("predicate %d, field %d changed: the same", n, m)
			}
			q = sample()
		}
		preds(&q.Where)[n].At++
		if !Same(q, sample()) || !SamePred(q.Where, sample().Where) || !SamePred(sample().Where, q.Where) {
			t.Errorf("predicate %d moved: not the same", n)
		}
	}
	for n := range items(&q) {
		q = sample()
		items(&q)[n].Agg++
		different("item", n, 0, q)
		q = sample()
		items(&q)[n].Column += "x"
		different("item", n, 1, q)
		q = sample()
		items(&q)[n].At++
		if !Same(q, sample()) {
			t.Errorf("item %d moved: not the same", n)
		}
	}
	for n, change := range []func(q *api.Query){
		func(q *api.Query) { q.All = true },
		func(q *api.Query) { q.Table = "" },
		func(q *api.Query) { q.Limit = -1 },
		func(q *api.Query) { q.Order[0].Desc = true },
		func(q *api.Query) { q.Order[1].Desc = false },
		func(q *api.Query) { q.Items = q.Items[1:] },
		func(q *api.Query) { q.Group = q.Group[:1] },
		func(q *api.Query) { q.Order = nil },
		func(q *api.Query) { q.Where = api.Pred{} },
		func(q *api.Query) { slices.Reverse(q.Items) },
		func(q *api.Query) { slices.Reverse(q.Group) },
		func(q *api.Query) { slices.Reverse(q.Order) },
		func(q *api.Query) { slices.Reverse(q.Where.Kids) },
	} {
		q = sample()
		change(&q)
		different("query, change", n, 0, q)
	}
	q = sample()
	q.At = 9
	if !Same(q, sample()) {
		t.Error("a query moved: not the same")
	}
}

// P11.1: any trees, those too that no text has; lists without anything are the same.
func TestSameAny(t *testing.T) {
	if !Same(api.Query{}, api.Query{}) || !SamePred(api.Pred{}, api.Pred{}) {
		t.Error("of nothing: not the same")
	}
	empty := api.Query{Items: []api.Item{}, Group: []api.Item{}, Order: []api.Key{}, Where: api.Pred{List: []api.Value{}, Kids: []api.Pred{}}}
	if !Same(empty, api.Query{}) || !Same(api.Query{}, empty) {
		t.Error("lists that are empty, and none: not the same")
	}
	if Same(api.Query{Limit: -1}, api.Query{Limit: -2}) {
		t.Error("two limits: the same")
	}
	odd := api.Pred{Kind: -3, Rel: 77, Value: api.Value{Kind: 9, Num: 3, Text: "\xff"}, Other: "B", Kids: []api.Pred{{}, {Kind: 99}}}
	if !SamePred(odd, odd) || SamePred(odd, api.Pred{Kind: -3}) {
		t.Error("of an odd one")
	}
	one, two := api.Pred{Kids: []api.Pred{{Kids: []api.Pred{{}}}, {}}}, api.Pred{Kids: []api.Pred{{}, {Kids: []api.Pred{{}}}}}
	if SamePred(one, two) || !SamePred(two, two) {
		t.Error("of Kids' Kids")
	}
}

// P11.1: blanks and brackets that say nothing make no other tree; each two made texts are the same just if their trees are.
func TestSameTexts(t *testing.T) {
	d := dice(12)
	var l []api.Query
	for range 60 {
		_, q := made(&d)
		l = append(l, q, sample())
	}
	for _, a := range l {
		for _, b := range l {
			x, y := a, b
			x.Where, y.Where = still(x.Where), still(y.Where)
			for _, q := range []*api.Query{&x, &y} {
				q.Items, q.Group, q.Order = slices.Clone(q.Items), slices.Clone(q.Group), slices.Clone(q.Order)
				for _, i := range items(q) {
					i.At = 0
				}
			}
			if Same(a, b) != reflect.DeepEqual(x, y) || SamePred(a.Where, b.Where) != reflect.DeepEqual(x.Where, y.Where) {
				t.Fatalf("Same(%+v, %+v): %v", a, b, Same(a, b))
			}
		}
	}
	a, _, _ := Parse("SELECT a FROM t WHERE a=1 AND NOT b IS NULL")
	b, _, _ := Parse(" SELECT  a FROM t WHERE ( (1 = a) AND (NOT ( b IS NULL)))")
	if !Same(a, b) || !SamePred(a.Where, b.Where) {
		t.Errorf("%+v, %+v: not the same", a, b)
	}
}

// still: a copy of a predicate without places.
func still(p api.Pred) api.Pred {
	p.At, p.Kids = 0, slices.Clone(p.Kids)
	for n := range p.Kids {
		p.Kids[n] = still(p.Kids[n])
	}
	return p
}

// P9: predicates of any depth.
func TestSameDeep(t *testing.T) {
	defer debug.SetMaxStack(debug.SetMaxStack(1 << 24))
	long := func(last api.Pred) api.Pred {
		for range 300000 {
			last = api.Pred{Kind: api.PNot, Kids: []api.Pred{last}}
		}
		return last
	}
	a, b, c := long(api.Pred{Kind: api.PTrue}), long(api.Pred{Kind: api.PTrue}), long(api.Pred{Kind: api.PFalse})
	if !SamePred(a, b) || SamePred(a, c) || !Same(api.Query{Where: a}, api.Query{Where: b}) || Same(api.Query{Where: c}, api.Query{Where: b}) || SamePred(a, a.Kids[0]) {
		t.Error("of deep ones")
	}
}
