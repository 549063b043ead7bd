package tree

import (
	"slices"
	"sync"
	"testing"

	"stillroom/api"
)

// P7.2: each tree of a long row of them is as it was, whatever was made of it, and of those.
func TestTreesStay(t *testing.T) {
	keys := rising()
	type state struct {
		x      *Tree
		m      model
		height int
	}
	all := []state{{m: model{}}}
	for n := range 1200 {
		was := all[n*n%len(all)]
		at := n * 13 % len(keys)
		m := model{}
		for k, r := range was.m {
			m[k] = r
		}
		x := was.x
		if n%3 == 2 {
			delete(m, at)
			x = Delete(x, keys[at])
		} else {
			m[at] = row(n, at)
			x = Put(x, keys[at], row(n, at))
		}
		all = append(all, state{x, m, Height(x)})
	}
	for _, s := range all {
		s.m.same(t, s.x, keys)
		if Height(s.x) != s.height {
			t.Errorf("height %d, was %d", Height(s.x), s.height)
		}
	}
	for n, s := range all {
		other := all[n*7%len(all)]
		if d, want := Diff(s.x, other.x), s.m.diff(other.m, len(keys)); !sameChanges(d, want) {
			t.Fatalf("Diff: %v, want %v", d, want)
		}
	}
}

// roomy: a copy of a row, with room behind it that holds spare.
func roomy(r api.Row) api.Row {
	return append(slices.Grow(slices.Clone(r), 3), number(77), number(78), number(79))[:len(r)]
}

// spare: all of a row, its spare room too.
func spare(r api.Row) api.Row { return r[:cap(r)] }

// fill overwrites a row, and its spare room.
func fill(r api.Row) {
	for n := range spare(r) {
		spare(r)[n] = text("gone")
	}
}

// P7.3: what is handed in stays, spare room too.
func TestHandedInStays(t *testing.T) {
	var x *Tree
	for n := range 20 {
		x = Put(x, row(n, n), row(n))
	}
	for n := -1; n < 21; n++ {
		key, r := roomy(row(n, n)), roomy(row(n, 5))
		wasKey, wasRow := slices.Clone(spare(key)), slices.Clone(spare(r))
		y := Put(x, key, r)
		Put(y, key, r)
		Get(y, key)
		From(y, key, 100)
		Diff(x, y)
		Delete(y, key)
		if !slices.Equal(spare(key), wasKey) || !slices.Equal(spare(r), wasRow) {
			t.Errorf("a key and a row that were handed in are now %v, %v", spare(key), spare(r))
		}
	}
}

// P7.3: what is handed in isn't kept.
func TestNotKept(t *testing.T) {
	keys := rising()
	var x *Tree
	m := model{}
	var lent []api.Row
	for round := range 2 {
		for at, k := range keys {
			key, r := roomy(k), roomy(row(at, round))
			x, m[at] = Put(x, key, r), row(at, round)
			lent = append(lent, key, r)
		}
	}
	for at, k := range keys {
		if at%3 == 0 {
			key := roomy(k)
			x = Delete(x, key)
			delete(m, at)
			lent = append(lent, key)
		}
	}
	for _, r := range lent {
		fill(r)
	}
	m.same(t, x, keys)
}

// P7.3: answers are new memory: neither the tree, nor one another, nor the same one's other rows go with them.
func TestAnswersApart(t *testing.T) {
	keys := rising()
	var x, y *Tree
	m, other := model{}, model{}
	for at, k := range keys {
		x, m[at] = Put(x, k, row(at)), row(at)
	}
	y = x
	for at, k := range keys {
		other[at] = row(at)
		switch at % 3 {
		case 0:
			y, other[at] = Put(y, k, row(-at-1)), row(-at-1)
		case 1:
			y = Delete(y, k)
			delete(other, at)
		}
	}
	answers := func() []api.Row {
		l := append(Rows(x), From(x, keys[3], 9)...)
		for _, k := range keys {
			r, _ := Get(x, k)
			l = append(l, r)
		}
		for _, d := range slices.Concat(Diff(x, y), Diff(y, x), Diff(y, nil), Diff(nil, x)) {
			l = append(l, d.Old, d.New)
		}
		return l
	}
	one, two := answers(), answers()
	was := slices.Clone(one)
	for n := range was {
		was[n] = slices.Clone(one[n])
	}
	for _, r := range one {
		fill(r)
	}
	if !sameRows(two, was) {
		t.Errorf("with answers that went, others: %v, want %v", two, was)
	}
	for n, r := range two {
		if !slices.Equal(r, was[n]) {
			t.Errorf("answer %d is %v, want %v: it went with one ahead of it", n, r, was[n])
		}
		fill(r)
	}
	m.same(t, x, keys)
	other.same(t, y, keys)
}

// P7.2: many may ask one tree, and make others of it, at once.
func TestAtOnce(t *testing.T) {
	keys := rising()
	var x *Tree
	m := model{}
	for at, k := range keys {
		x, m[at] = Put(x, k, row(at)), row(at)
	}
	var all sync.WaitGroup
	for n := range 8 {
		all.Go(func() {
			y := x
			for at := n; at < len(keys); at += 2 {
				y = Put(Delete(y, keys[at]), keys[at], row(at, n))
			}
			if len(Diff(x, y)) != (len(keys)-n+1)/2 || len(Rows(x)) != len(keys) {
				t.Errorf("of %d: %v", n, Diff(x, y))
			}
		})
	}
	all.Wait()
	m.same(t, x, keys)
}
