package store

import (
	"slices"
	"testing"

	"stillroom/api"
)

// roomy: a copy of a list, with room behind it that holds spare.
func roomy[L ~[]E, E any](l L, spare ...E) L {
	return append(slices.Grow(slices.Clone(l), len(spare)), spare...)[:len(l)]
}

// spoil overwrites a list, its spare room too.
func spoil[L ~[]E, E any](l L, with E) {
	for n := range l[:cap(l)] {
		l[:cap(l)][n] = with
	}
}

// lentTables: the catalog, all lists with spare room that holds something.
func lentTables() []api.Table {
	l := catalog()
	for n := range l {
		l[n].Columns = roomy(l[n].Columns, column("spare", api.Int, true))
	}
	return roomy(l, api.Table{Name: "spare", Keys: 1, Columns: []api.Column{column("spare", api.Int, false)}})
}

// lentOps: likewise, of operations.
func lentOps(l ...api.Op) []api.Op {
	l = slices.Clone(l)
	for n := range l {
		l[n].Row = roomy(l[n].Row, number(77), text("spare"))
	}
	return roomy(l, put("spare", number(1)))
}

// spoilTables overwrites tables, with their columns.
func spoilTables(l []api.Table) {
	for _, x := range l[:cap(l)] {
		spoil(x.Columns, column("gone", api.Bool, true))
	}
	spoil(l, api.Table{Name: "gone"})
}

// spoilOps overwrites operations, with their rows.
func spoilOps(l []api.Op) {
	for _, o := range l[:cap(l)] {
		spoil(o.Row, text("gone"))
	}
	spoil(l, api.Op{Kind: 7, Table: "gone"})
}

func spoilRows(l []api.Row) {
	for _, r := range l[:cap(l)] {
		spoil(r, text("gone"))
	}
	spoil(l, api.Row{text("gone")})
}

// spoilCommit overwrites what a commit changed.
func spoilCommit(c api.Commit) {
	for _, x := range c.Changes[:cap(c.Changes)] {
		spoil(x.Old, text("gone"))
		spoil(x.New, text("gone"))
	}
	spoil(c.Changes, api.Change{Table: "gone"})
}

// wholeTables: tables with their spare room told as if it were part of them, in new memory.
func wholeTables(l []api.Table) []api.Table {
	return copied(withColumns(l[:cap(l)]))
}

func withColumns(l []api.Table) []api.Table {
	l = slices.Clone(l)
	for n, x := range l {
		l[n].Columns = x.Columns[:cap(x.Columns)]
	}
	return l
}

// wholeOps: likewise, of operations.
func wholeOps(l []api.Op) []api.Op {
	l = slices.Clone(l[:cap(l)])
	for n, o := range l {
		l[n].Row = slices.Clone(o.Row[:cap(o.Row)])
	}
	return l
}

func sameOps(a, b []api.Op) bool {
	return slices.EqualFunc(a, b, func(x, y api.Op) bool {
		return x.Kind == y.Kind && x.Table == y.Table && slices.Equal(x.Row, y.Row)
	})
}

// script: lists of operations: rows come, are others, go; some are refused.
func script() [][]api.Op {
	return [][]api.Op{
		{put("t", number(1), text("a")), put("u", row(1, 1)...), put("shops", text("a"), truth(1), number(5), null)},
		{put("t", number(2), null), put("t", number(1), text("b")), put("u", row(1, 2)...)},
		{put("t", number(3), null), del("t", number(9))},
		{put("t", number(3), text("c")), put("u", row(1)...)},
		{put("u", row(1, 1)...), put("shops", text("a"), truth(1), null, null), del("t", number(2))},
		{put("t", number(1), null), put("t", number(1), null)},
		{del("shops", text("a"), truth(1)), del("u", row(1, 2)...), put("t", number(7), text("z"))},
	}
}

// P9.4: what is handed in stays, spare room too, whatever is done with the store, and with what it answers.
func TestHandedInStays(t *testing.T) {
	l := lentTables()
	wasTables := wholeTables(l)
	s, e := New(l)
	if e != api.OK {
		t.Fatalf("New: %d", e)
	}
	var ops, was [][]api.Op
	var keys, wasKeys []api.Row
	for _, o := range script() {
		o = lentOps(o...)
		ops, was = append(ops, o), append(was, wholeOps(o))
		c, _ := s.Commit(o)
		spoilCommit(c)
		k := roomy(row(1, 2), text("spare"))
		keys, wasKeys = append(keys, k), append(wasKeys, slices.Clone(k[:cap(k)]))
		r, _ := s.Now().Get("u", k)
		spoil(r, text("gone"))
		all, _ := s.Now().Rows("u")
		spoilRows(all)
		spoilTables(s.Catalog())
		spoilTables(s.Now().Catalog())
	}
	if !sameCatalog(withColumns(l[:cap(l)]), wasTables) {
		t.Errorf("tables that were handed in are now %v, were %v", l[:cap(l)], wasTables)
	}
	for n, o := range ops {
		if !sameOps(wholeOps(o), was[n]) {
			t.Errorf("operations that were handed in are now %v, were %v", wholeOps(o), was[n])
		}
	}
	for n, k := range keys {
		if !slices.Equal(k[:cap(k)], wasKeys[n]) {
			t.Errorf("a key that was handed in is now %v, was %v", k[:cap(k)], wasKeys[n])
		}
	}
}

// P9.4: what is handed in isn't kept.
func TestNotKept(t *testing.T) {
	l := lentTables()
	s, e := New(l)
	if e != api.OK {
		t.Fatalf("New: %d", e)
	}
	spoilTables(l)
	m := first()
	for _, o := range script() {
		lent := lentOps(o...)
		m, _ = m.commit(o)
		s.Commit(lent)
		spoilOps(lent)
		k := roomy(row(1, 1), text("spare"))
		s.Now().Get("u", k)
		spoil(k, text("gone"))
		m.same(t, s)
	}
	if !sameCatalog(s.Catalog(), catalog()) || !sameCatalog(s.Now().Catalog(), catalog()) {
		t.Errorf("the catalog is %v", s.Catalog())
	}
}

// P9.4: one list that two operations have, and two commits, is told as lists of their own, and kept as such.
func TestSharedApart(t *testing.T) {
	s := made(t)
	l := api.Row{number(1), number(1), {}}
	ops := []api.Op{put("u", l[:2]...), put("t", l[1:]...)}
	want := []api.Change{{Table: "u", New: row(1, 1)}, {Table: "t", New: api.Row{number(1), {}}}}
	a := done(t, s, ops...)
	gone := done(t, s, del("u", l[:2]...), del("t", l[1:2]...))
	b := done(t, s, ops...)
	for n, c := range []api.Commit{a, b, must(s.Since(0))[0], must(s.Since(0))[2]} {
		for k := range c.Changes {
			if !sameChanges(c.Changes[k:], want[k:]) {
				t.Errorf("answer %d: %v, want %v", n, c.Changes[k:], want[k:])
			}
			spoil(c.Changes[k].New, text("gone"))
		}
	}
	if !sameChanges(gone.Changes, []api.Change{{Table: "u", Old: row(1, 1)}, {Table: "t", Old: api.Row{number(1), {}}}}) {
		t.Errorf("with other answers went %v", gone)
	}
	if !slices.Equal(l, api.Row{number(1), number(1), {}}) {
		t.Errorf("a list that was handed in is now %v", l)
	}
}

// P9.4: a snapshot that is overwritten takes neither the store's with it, nor another answer.
func TestSnapshotsApart(t *testing.T) {
	s, m := made(t), first()
	for _, o := range script() {
		m = step(t, s, m, o)
	}
	other, old := s.Now(), at(t, s, 1)
	for v := range s.Version() + 1 {
		*at(t, s, v) = Snapshot{}
		*s.Now() = *old
	}
	if told(other) != m.told(m.version()) || told(old) != m.told(1) {
		t.Errorf("snapshots are now %s, %s", told(other), told(old))
	}
	m.same(t, s)
}

// R8: each store keeps its own.
func TestStoresApart(t *testing.T) {
	a, b := made(t), made(t)
	m, n := first(), first()
	for k, o := range script() {
		m = step(t, a, m, o)
		if k%2 == 0 {
			n = step(t, b, n, o)
		}
		m.same(t, a)
		n.same(t, b)
	}
}

// P9.4: answers are new memory: neither the store goes with one, nor a snapshot, nor another answer, nor the same one's other lists.
func TestAnswersApart(t *testing.T) {
	s, m := made(t), first()
	for _, o := range script() {
		m, _ = m.commit(o)
		c, e := s.Commit(o)
		if e == api.OK {
			other, _ := s.Since(s.Version() - 1)
			spoilCommit(c)
			if !sameCommits(other, m.commits[m.version():]) {
				t.Errorf("with a commit's answer what is told since went: %v", other)
			}
		}
		m.same(t, s)
	}
	p, q := s.Now(), at(t, s, 2)
	wasP, wasQ := told(p), told(q)
	since, again := must(s.Since(0)), must(s.Since(0))
	for n := range since {
		for k, x := range since[n].Changes {
			spoil(x.Old, text("gone"))
			if !sameRow(x.New, m.commits[n+1].Changes[k].New) {
				t.Errorf("with a row that was the one that is went: %v", x)
			}
			spoil(x.New, text("gone"))
			if !sameChanges(since[n].Changes[k+1:], m.commits[n+1].Changes[k+1:]) {
				t.Errorf("with change %d of commit %d others went", k, n+1)
			}
		}
		spoilCommit(since[n])
		if !sameCommits(since[n+1:], m.commits[n+2:]) {
			t.Errorf("with commit %d others went", n+1)
		}
	}
	spoil(since, api.Commit{Version: -1})
	if !sameCommits(again, m.commits[1:]) {
		t.Errorf("with one answer another one went: %v", again)
	}
	for _, x := range []*Snapshot{p, q, s.Now(), at(t, s, 2)} {
		for _, table := range catalog() {
			one, two := rowsOf(t, x, table.Name), rowsOf(t, x, table.Name)
			was := rowsOf(t, x, table.Name)
			for n := range one {
				spoil(one[n], text("gone"))
				if !sameRows(one[n+1:], was[n+1:]) {
					t.Errorf("with row %d of an answer others went: %v", n, one)
				}
			}
			spoilRows(one)
			for _, r := range two {
				got, _ := x.Get(table.Name, r[:table.Keys])
				spoil(got, text("gone"))
			}
			if !sameRows(two, was) || !sameRows(rowsOf(t, x, table.Name), was) {
				t.Errorf("with an answer the rows of %s went: %v", table.Name, two)
			}
		}
		spoilTables(x.Catalog())
		spoilTables(s.Catalog())
		if !sameCatalog(x.Catalog(), catalog()) || !sameCatalog(s.Catalog(), catalog()) {
			t.Errorf("with an answer the catalog went: %v, %v", x.Catalog(), s.Catalog())
		}
	}
	if told(p) != wasP || told(q) != wasQ {
		t.Errorf("snapshots are now %s, %s", told(p), told(q))
	}
	m.same(t, s)
}

// must: commits that must be told.
func must(l []api.Commit, e api.Errno) []api.Commit {
	if e != api.OK {
		panic(e)
	}
	return l
}
