package logic

import (
	"math"
	"slices"
	"strings"
	"testing"

	"stillroom/api"
)

const (
	no    = api.False
	yes   = api.True
	maybe = api.Unknown
)

var (
	truths = []api.Truth{no, yes, maybe}
	rels   = []api.Rel{api.Eq, api.Ne, api.Lt, api.Le, api.Gt, api.Ge}
	// noRels: numbers that are no comparison's.
	noRels = []api.Rel{0, 7, 8, -1, -6, math.MinInt, math.MaxInt}
	null   = api.Value{}
)

func num(n int) api.Value { return api.Value{Kind: api.Int, Num: n} }

func text(s string) api.Value { return api.Value{Kind: api.Text, Text: s} }

// rising: good values but null, each ahead of the next.
func rising() []api.Value {
	l := []api.Value{{Kind: api.Bool}, {Kind: api.Bool, Num: 1}}
	for _, n := range []int{math.MinInt, -1, 0, 1, 4, math.MaxInt} {
		l = append(l, num(n))
	}
	for _, s := range []string{"", "\x00", "4", "a", "a\x00", "ab", "b", "\xff", strings.Repeat("\xff", api.MaxText)} {
		l = append(l, text(s))
	}
	return l
}

// lists: all lists of truths that are at most n long.
func lists(n int) [][]api.Truth {
	out := [][]api.Truth{nil}
	for at := 0; at < len(out); at++ {
		if len(out[at]) == n {
			break
		}
		for _, a := range truths {
			out = append(out, append(slices.Clone(out[at]), a))
		}
	}
	return out
}

// P2.1: Not.
func TestNot(t *testing.T) {
	for a, want := range map[api.Truth]api.Truth{no: yes, yes: no, maybe: maybe} {
		if got := Not(a); got != want {
			t.Errorf("Not(%d): %d, want %d", a, got, want)
		}
	}
}

// P2.1: And and Or, by the words, of all short lists; of none And is True, Or False.
func TestAndOr(t *testing.T) {
	all := lists(5)
	if len(all) != 1+3+9+27+81+243 {
		t.Fatalf("%d lists", len(all))
	}
	for _, l := range all {
		and, or := yes, no
		switch {
		case slices.Contains(l, no):
			and = no
		case slices.Contains(l, maybe):
			and = maybe
		}
		switch {
		case slices.Contains(l, yes):
			or = yes
		case slices.Contains(l, maybe):
			or = maybe
		}
		if got := And(l...); got != and {
			t.Errorf("And(%v): %d, want %d", l, got, and)
		}
		if got := Or(l...); got != or {
			t.Errorf("Or(%v): %d, want %d", l, got, or)
		}
	}
	if And() != yes || Or() != no || And([]api.Truth{}...) != yes || Or([]api.Truth{}...) != no {
		t.Error("R5: of no truths")
	}
}

// P2.2: Not turns And into Or of the Nots, and the other way; twice it is nothing.
func TestNotTurns(t *testing.T) {
	for _, l := range lists(5) {
		var nots []api.Truth
		for _, a := range l {
			nots = append(nots, Not(a))
			if Not(Not(a)) != a {
				t.Errorf("Not(Not(%d)): %d", a, Not(Not(a)))
			}
		}
		if a, b := Not(And(l...)), Or(nots...); a != b {
			t.Errorf("Not(And(%v)): %d; Or of the Nots: %d", l, a, b)
		}
		if a, b := Not(Or(l...)), And(nots...); a != b {
			t.Errorf("Not(Or(%v)): %d; And of the Nots: %d", l, a, b)
		}
	}
}

// P2.1: Of, of any two values that aren't null, of one kind or of two.
func TestOf(t *testing.T) {
	// want: what each comparison says of the first ahead, the same, the first behind.
	want := map[api.Rel][3]api.Truth{
		api.Eq: {no, yes, no}, api.Ne: {yes, no, yes},
		api.Lt: {yes, no, no}, api.Le: {yes, yes, no},
		api.Gt: {no, no, yes}, api.Ge: {no, yes, yes},
	}
	l := rising()
	for _, rel := range rels {
		for i, a := range l {
			for j, b := range l {
				at := 1
				if i < j {
					at = 0
				} else if i > j {
					at = 2
				}
				if x, e := Of(rel, a, b); x != want[rel][at] || e != api.OK {
					t.Errorf("Of(%d, %v, %v): %d, %d, want %d", rel, a, b, x, e, want[rel][at])
				}
			}
		}
	}
}

// P2.1: each comparison with null is Unknown, of null too.
func TestOfNull(t *testing.T) {
	for _, rel := range rels {
		for _, a := range append(rising(), null) {
			if x, e := Of(rel, a, null); x != maybe || e != api.OK {
				t.Errorf("Of(%d, %v, null): %d, %d", rel, a, x, e)
			}
			if x, e := Of(rel, null, a); x != maybe || e != api.OK {
				t.Errorf("Of(%d, null, %v): %d, %d", rel, a, x, e)
			}
		}
	}
}

// P2.1, R3: of no comparison Of, Opposite and Turned tell ErrRange, and nothing else; its sign is empty.
func TestNoRel(t *testing.T) {
	for _, rel := range noRels {
		for _, a := range append(rising(), null) {
			for _, b := range []api.Value{a, null, num(4)} {
				if x, e := Of(rel, a, b); x != 0 || e != api.ErrRange {
					t.Errorf("Of(%d, %v, %v): %d, %d", rel, a, b, x, e)
				}
			}
		}
		if r, e := Opposite(rel); r != 0 || e != api.ErrRange {
			t.Errorf("Opposite(%d): %d, %d", rel, r, e)
		}
		if r, e := Turned(rel); r != 0 || e != api.ErrRange {
			t.Errorf("Turned(%d): %d, %d", rel, r, e)
		}
		if s := Sign(rel); s != "" {
			t.Errorf("Sign(%d): %q", rel, s)
		}
	}
}

// P2.1: Opposite, Turned and Sign of each comparison.
func TestRels(t *testing.T) {
	for _, c := range []struct {
		rel, opposite, turned api.Rel
		sign                  string
	}{
		{api.Eq, api.Ne, api.Eq, "="}, {api.Ne, api.Eq, api.Ne, "<>"},
		{api.Lt, api.Ge, api.Gt, "<"}, {api.Le, api.Gt, api.Ge, "<="},
		{api.Gt, api.Le, api.Lt, ">"}, {api.Ge, api.Lt, api.Le, ">="},
	} {
		if r, e := Opposite(c.rel); r != c.opposite || e != api.OK {
			t.Errorf("Opposite(%d): %d, %d, want %d", c.rel, r, e, c.opposite)
		}
		if r, e := Turned(c.rel); r != c.turned || e != api.OK {
			t.Errorf("Turned(%d): %d, %d, want %d", c.rel, r, e, c.turned)
		}
		if s := Sign(c.rel); s != c.sign {
			t.Errorf("Sign(%d): %q, want %q", c.rel, s, c.sign)
		}
	}
}

// P2.2: the opposite's truth is Not of the one's; the turned one says the same of the two, turned.
func TestRelsSay(t *testing.T) {
	l := append(rising(), null)
	for _, rel := range rels {
		opposite, _ := Opposite(rel)
		turned, _ := Turned(rel)
		for _, a := range l {
			for _, b := range l {
				x, _ := Of(rel, a, b)
				if y, e := Of(opposite, a, b); y != Not(x) || e != api.OK {
					t.Errorf("Of(%d, %v, %v): %d; its opposite: %d, %d", rel, a, b, x, y, e)
				}
				if y, e := Of(turned, b, a); y != x || e != api.OK {
					t.Errorf("Of(%d, %v, %v): %d; turned: %d, %d", rel, a, b, x, y, e)
				}
			}
		}
	}
}

// P2.1: In.
func TestIn(t *testing.T) {
	for _, c := range []struct {
		v    api.Value
		l    []api.Value
		want api.Truth
	}{
		{num(1), nil, no}, {null, nil, no}, {num(1), []api.Value{}, no}, {null, []api.Value{}, no},
		{num(1), []api.Value{num(1)}, yes}, {num(1), []api.Value{num(2)}, no}, {num(1), []api.Value{null}, maybe},
		{null, []api.Value{null}, maybe}, {null, []api.Value{num(1)}, maybe}, {null, []api.Value{num(1), null, num(2)}, maybe},
		{num(1), []api.Value{num(2), null}, maybe}, {num(1), []api.Value{null, num(2)}, maybe},
		{num(1), []api.Value{null, num(1)}, yes}, {num(1), []api.Value{num(1), null}, yes}, {num(1), []api.Value{num(2), null, num(1), num(3)}, yes},
		{num(1), []api.Value{num(0), num(2), text("1"), {Kind: api.Bool, Num: 1}}, no}, {text("1"), []api.Value{num(1), text("1")}, yes},
		{text(""), []api.Value{num(0), {Kind: api.Bool}}, no}, {text("a"), []api.Value{text("ab"), text("")}, no},
	} {
		if x := In(c.v, c.l); x != c.want {
			t.Errorf("In(%v, %v): %d, want %d", c.v, c.l, x, c.want)
		}
	}
}

// P2.1: In of all short lists is the Or of = of the value and each.
func TestInIsOr(t *testing.T) {
	some := []api.Value{null, {Kind: api.Bool}, num(0), num(1), text("")}
	all := [][]api.Value{nil}
	for at := 0; at < len(all) && len(all[at]) < 4; at++ {
		for _, w := range some {
			all = append(all, append(slices.Clone(all[at]), w))
		}
	}
	for _, l := range all {
		for _, v := range some {
			var each []api.Truth
			for _, w := range l {
				x, _ := Of(api.Eq, v, w)
				each = append(each, x)
			}
			if x, want := In(v, l), Or(each...); x != want {
				t.Errorf("In(%v, %v): %d, want %d", v, l, x, want)
			}
		}
	}
}

// P2.3, R6: lists that are handed in stay, spare room included.
func TestStays(t *testing.T) {
	for _, l := range lists(4) {
		room := slices.Clone(l)
		for n := range len(l) + 1 {
			And(room[:n]...)
			Or(room[:n]...)
		}
		if !slices.Equal(room, l) {
			t.Errorf("what was handed in as %v is now %v", l, room)
		}
	}
	l := []api.Value{num(2), null, text("a"), num(1), null}
	room := slices.Clone(l)
	for n := range len(l) + 1 {
		for _, v := range l {
			In(v, room[:n])
		}
	}
	if !slices.Equal(room, l) {
		t.Errorf("what was handed in as %v is now %v", l, room)
	}
}

// P9: no call panics, whatever it is given.
func TestAnything(t *testing.T) {
	odd := []api.Value{null, {Num: 1}, {Kind: api.Bool, Num: 2}, {Kind: api.Int, Text: "a"}, {Kind: 4}, {Kind: -1}, {Kind: math.MaxInt, Num: math.MinInt}, text(strings.Repeat("a", 1000))}
	for _, a := range odd {
		In(a, odd)
		for _, b := range odd {
			for _, rel := range append(noRels, rels...) {
				Of(rel, a, b)
			}
		}
	}
	wrong := []api.Truth{3, -1, math.MinInt, math.MaxInt, no, yes, maybe}
	And(wrong...)
	Or(wrong...)
	for _, a := range wrong {
		Not(a)
		And(a)
		Or(a, a)
	}
}
