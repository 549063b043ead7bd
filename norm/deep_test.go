package norm

import (
	"math"
	"runtime/debug"
	"slices"
	"strconv"
	"testing"

	"stillroom/api"
	"stillroom/parse"
)

const many = 50000

// nested: a predicate in many others, each of which around makes.
func nested(p api.Pred, around func(n int, p api.Pred) api.Pred) api.Pred {
	for n := range many {
		p = around(n, p)
	}
	return p
}

func junction(kind int, kids ...api.Pred) api.Pred {
	return api.Pred{Kind: kind, Kids: kids}
}

func unlikeNum(name string, n int) api.Pred {
	return api.Pred{Kind: api.PCompare, Column: name, Rel: api.Ne, Value: num(n)}
}

// P9, R7, P14.1: predicates of any depth whose normal form is a small one.
func TestDeep(t *testing.T) {
	defer debug.SetMaxStack(debug.SetMaxStack(1 << 22))
	one, none, no := read(t, "d = 1"), api.Pred{}, read(t, "FALSE")
	last := "d <= -" + strconv.Itoa(many)
	for _, c := range []struct {
		first, want string
		around      func(n int, p api.Pred) api.Pred
	}{
		{"d = 1", "d = 1", func(n int, p api.Pred) api.Pred { return junction(api.PNot, p) }},
		{"NOT d = 1", "d <> 1", func(n int, p api.Pred) api.Pred { return junction(api.PNot, p) }},
		{"d = 1", "d = 1", func(n int, p api.Pred) api.Pred { return junction(api.PAnd, p, none) }},
		{"a = 1", "a = 1 AND d = 1", func(n int, p api.Pred) api.Pred { return junction(api.PAnd, none, one, p) }},
		{"a = 1", "a = 1 OR d = 1", func(n int, p api.Pred) api.Pred { return junction(api.POr, one, p, one) }},
		{"d = 1", "d = 1", func(n int, p api.Pred) api.Pred { return junction(api.PAnd+n%2, p, one) }},
		{"d = 1", "d = 1", func(n int, p api.Pred) api.Pred { return junction(api.PNot, junction(api.PAnd, p, none)) }},
		{"d = 1", "d = 1", func(n int, p api.Pred) api.Pred { return junction(api.PNot, junction(api.POr, no, p)) }},
		{"d = 1", "FALSE", func(n int, p api.Pred) api.Pred { return junction(api.PAnd, p, unlikeNum("d", n)) }},
		{"d <= 0", last, func(n int, p api.Pred) api.Pred { return junction(api.PAnd, p, unlikeNum("d", -n)) }},
		{"d <= 0", last, func(n int, p api.Pred) api.Pred {
			return junction(api.PAnd, junction(api.POr, p, no), unlikeNum("d", -n))
		}},
		{"d <= 0", last, func(n int, p api.Pred) api.Pred {
			return junction(api.PAnd, unlikeNum("d", -n), junction(api.PNot, junction(api.PAnd, junction(api.PNot, p), none)))
		}},
	} {
		if got := Pred(asking(), nested(read(t, c.first), c.around)); !parse.SamePred(got, read(t, c.want)) {
			t.Errorf("a deep one around %s: %+v, want %s", c.first, got, c.want)
		}
	}
}

// P9, R7, P14.1, P14.3: predicates whose normal form is as deep as they are.
func TestDeepForm(t *testing.T) {
	defer debug.SetMaxStack(debug.SetMaxStack(1 << 22))
	deep := func(first string) api.Pred {
		return nested(read(t, first), func(n int, p api.Pred) api.Pred {
			return junction(api.PAnd+n%2, p, unlikeNum([]string{"d", "g"}[n%2], n))
		})
	}
	p, q := Pred(asking(), deep("a = 1")), Pred(asking(), deep("a = 2"))
	at := p
	for n := range many - 1 {
		n = many - 1 - n
		if at.Kind != api.PAnd+n%2 || len(at.Kids) != 2 || !parse.SamePred(at.Kids[0], unlikeNum([]string{"d", "g"}[n%2], n)) {
			t.Fatalf("at %d: kind %d, %d Kids", n, at.Kind, len(at.Kids))
		}
		at = at.Kids[1]
	}
	if !parse.SamePred(at, read(t, "a = 1 AND d <> 0")) {
		t.Errorf("within: %+v", at)
	}
	if Compare(p, q) != -1 || Compare(q, p) != 1 || Compare(p, p) != 0 || !parse.SamePred(Pred(asking(), p), p) {
		t.Error("Compare of deep ones")
	}
	// Both are there, the one ahead first; those that are the same once.
	if got := Pred(asking(), junction(api.PAnd, q, p, deep("a = 2"))); len(got.Kids) != 2 || !parse.SamePred(got, junction(api.PAnd, p, q)) {
		t.Errorf("of deep Kids: kind %d, %d Kids", got.Kind, len(got.Kids))
	}
	// NOT of it, as deep.
	got := Pred(asking(), junction(api.PNot, q))
	if got.Kind != api.PAnd || !parse.SamePred(Pred(asking(), junction(api.PNot, got)), q) {
		t.Errorf("NOT of a deep one: kind %d", got.Kind)
	}
}

// P9: many ANDs in one another, each of which is told by an OR alone, and tells something else.
func TestDeepWide(t *testing.T) {
	p := nested(read(t, "d <> -1"), func(n int, p api.Pred) api.Pred {
		return junction(api.PAnd, junction(api.POr, p, api.Pred{Kind: api.PFalse}), unlikeNum("d", 2*n))
	})
	if got := Pred(asking(), p); got.Kind != api.PAnd || len(got.Kids) != many+1 || got.Kids[many].Value.Num != 2*(many-1) {
		t.Errorf("kind %d, %d Kids", got.Kind, len(got.Kids))
	}
}

// P9: many Kids.
func TestWide(t *testing.T) {
	var kids []api.Pred
	for n := range many {
		kids = append(kids, unlikeNum("d", n*7919%many), unlikeNum("d", n*6007%many))
	}
	got := Pred(asking(), junction(api.POr, kids...))
	if got.Kind != api.POr || len(got.Kids) != many {
		t.Fatalf("a wide OR: kind %d, %d Kids", got.Kind, len(got.Kids))
	}
	for n, kid := range got.Kids {
		if kid.Value.Num != n {
			t.Fatalf("a wide OR: %+v at %d", kid, n)
		}
	}
	if got := Pred(asking(), junction(api.PAnd, append(kids, read(t, "d > -1"))...)); !parse.SamePred(got, read(t, "d >= "+strconv.Itoa(many))) {
		t.Errorf("a wide AND: kind %d, %d Kids", got.Kind, len(got.Kids))
	}
	if got := Pred(asking(), junction(api.PAnd, kids...)); got.Kind != api.PAnd || len(got.Kids) != many {
		t.Errorf("a wide AND without bounds: kind %d, %d Kids", got.Kind, len(got.Kids))
	}
}

// odd: predicates that no text has.
func odd() []api.Pred {
	var l []api.Pred
	for _, k := range []int{math.MinInt, -1, 0, 1, 2, 3, 4, 5, 6, 7, 8, 9, 10, 11, 12, 99, math.MaxInt} {
		for _, name := range []string{"a", "h", "c", "z", ""} {
			l = append(l, api.Pred{Kind: k, Column: name}, api.Pred{Kind: k, Column: name, Other: "z", Rel: -1}, api.Pred{Kind: k, Column: name, Other: "a", Rel: api.Lt, Value: text("x"), List: []api.Value{{}, num(1), text("y")}}, api.Pred{Kind: k, Column: name, Rel: api.Ge, Value: api.Value{Kind: 9, Num: 7}, List: []api.Value{text("y"), {Kind: -1}}})
		}
	}
	for _, p := range slices.Clone(l) {
		for _, k := range []int{api.PAnd, api.POr, api.PNot, api.PTrue, api.PCompare, 12} {
			l = append(l, api.Pred{Kind: k, Rel: api.Eq, Kids: []api.Pred{p, {Kind: api.PTrue}, p}}, api.Pred{Kind: k, Rel: 7, Kids: []api.Pred{p}}, api.Pred{Kind: k, Kids: []api.Pred{p, unlikeNum(p.Column, 1), {Kind: api.PCompare, Column: p.Column, Rel: api.Le, Value: num(math.MinInt)}}})
		}
	}
	return l
}

// P9: of what isn't promised each call ends, and doesn't panic.
func TestOdd(t *testing.T) {
	twice := asking()
	twice.Columns[7].Name = "a"
	for _, x := range []api.Table{asking(), {}, {Columns: []api.Column{{}, {Name: "h", Kind: 9, Null: true}}}, twice} {
		for _, p := range odd() {
			q := Pred(x, p)
			Compare(p, q)
			if !parse.SamePred(Pred(x, p), q) {
				t.Fatalf("Pred of %+v: not the same twice", p)
			}
			y := api.Item{Agg: api.Agg(p.Kind), Column: p.Column}
			Query(x, api.Query{Items: []api.Item{y, y}, All: true, Where: p, Group: []api.Item{y, {}, y}, Order: []api.Key{{Item: y}, {Item: y}}, Limit: p.Kind})
		}
	}
	Query(api.Table{}, api.Query{})
}
