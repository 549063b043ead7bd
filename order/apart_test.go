package order

import (
	"reflect"
	"slices"
	"testing"

	"stillroom/api"
)

// roomy: a copy of a list, with room behind it that holds spare.
func roomy[L ~[]E, E any](l L, spare E) L {
	return append(slices.Grow(slices.Clone(l), 3), spare, spare, spare)[:len(l)]
}

// lent: all that calls are handed in.
type lent struct {
	falls []bool
	lines []Line
	x     Line
}

// lend: some lines, of which two share each of their lists, as a line and x do; all lists roomy.
func lend() lent {
	var l []Line
	for _, x := range some() {
		l = append(l, Line{roomy(x.Keys, num(9)), roomy(x.Tie, num(9)), roomy(x.Out, num(9))})
	}
	l[6].Keys, l[4].Out = l[1].Keys, l[1].Out
	return lent{roomy([]bool{false, true}, true), roomy(l, Line{Tie: api.Row{num(9)}}), l[1]}
}

// room: where each part of a list is kept, spare room too.
func room[E any](l []E) []any {
	var out []any
	for n := range l[:cap(l)] {
		out = append(out, &l[:cap(l)][n])
	}
	return out
}

// rooms: of all that is handed in, lists each once.
func (l lent) rooms() []any {
	out := slices.Concat(room(l.falls), room(l.lines))
	for n, x := range l.lines {
		if n != 6 {
			out = append(out, room(x.Keys)...)
		}
		if n != 4 {
			out = append(out, room(x.Out)...)
		}
		out = append(out, room(x.Tie)...)
	}
	return out
}

// held: what stands in places.
func held(l []any) []any {
	var out []any
	for _, at := range l {
		out = append(out, reflect.ValueOf(at).Elem().Interface())
	}
	return out
}

// spoil writes over rows, and their spare room.
func spoil(l ...api.Row) {
	for _, r := range l {
		for n := range r[:cap(r)] {
			r[:cap(r)][n] = num(-1)
		}
	}
}

// P18.3: what is handed in stays, spare room too, also when an answer is written over.
func TestStays(t *testing.T) {
	l, want := lend(), lend()
	for range 2 {
		Compare(l.falls, l.lines[0], l.x)
		Place(l.falls, l.lines, l.x)
		outs := Outs(l.lines)
		spoil(outs...)
		clear(outs[:cap(outs)])
		answers := [][]Line{Sort(l.falls, l.lines)}
		for n := range 10 {
			answers = append(answers, Top(l.falls, l.lines, n-1))
		}
		for _, got := range answers {
			for _, x := range got {
				spoil(x.Keys, x.Tie, x.Out)
			}
			clear(got[:cap(got)])
		}
		if !reflect.DeepEqual(l, want) || !reflect.DeepEqual(held(l.rooms()), held(want.rooms())) {
			t.Fatalf("what was handed in is now %+v, %v", l, held(l.rooms()))
		}
	}
}

// P18.3: answers are new memory, spare room too: they share none with what is handed in, nor with one another; no two lists of one do, even if lines share theirs.
func TestApart(t *testing.T) {
	l := lend()
	taken := map[any]string{}
	take := func(who string, places []any) {
		for _, at := range places {
			if taken[at] != "" {
				t.Errorf("%s shares a part with %s: %+v", who, taken[at], at)
			}
			taken[at] = who
		}
	}
	take("what is handed in", l.rooms())
	for range 2 {
		outs := Outs(l.lines)
		take("list of Outs", room(outs))
		for _, r := range outs {
			take("row of Outs", room(r))
		}
		answers := [][]Line{Sort(l.falls, l.lines)}
		for n := range 10 {
			answers = append(answers, Top(l.falls, l.lines, n-1))
		}
		for _, got := range answers {
			take("list of lines", room(got))
			for _, x := range got {
				take("a line", slices.Concat(room(x.Keys), room(x.Tie), room(x.Out)))
			}
		}
	}
}

// P18.3: what was answered stays, when what was handed in is written over.
func TestKept(t *testing.T) {
	l := lend()
	sorted, outs, top := Sort(l.falls, l.lines), Outs(l.lines), Top(l.falls, l.lines, 4)
	for _, x := range l.lines {
		spoil(x.Keys, x.Tie, x.Out)
	}
	again := lend()
	if !reflect.DeepEqual(sorted, Sort(again.falls, again.lines)) || !reflect.DeepEqual(outs, Outs(again.lines)) || !reflect.DeepEqual(top, sorted[:4]) {
		t.Errorf("what was answered is now %v, %v, %v", sorted, outs, top)
	}
}
