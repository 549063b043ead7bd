package store

import (
	"math"
	"slices"
	"strings"
	"testing"

	"stillroom/api"
	"stillroom/schema"
)

// null: the value.
var null api.Value

func number(n int) api.Value { return api.Value{Kind: api.Int, Num: n} }

func truth(n int) api.Value { return api.Value{Kind: api.Bool, Num: n} }

func text(s string) api.Value { return api.Value{Kind: api.Text, Text: s} }

// row: of ints.
func row(l ...int) api.Row {
	var out api.Row
	for _, n := range l {
		out = append(out, number(n))
	}
	return out
}

func put(table string, r ...api.Value) api.Op {
	return api.Op{Kind: api.Put, Table: table, Row: r}
}

func del(table string, key ...api.Value) api.Op {
	return api.Op{Kind: api.Delete, Table: table, Row: key}
}

func column(name string, k api.Kind, null bool) api.Column {
	return api.Column{Name: name, Kind: k, Null: null}
}

// catalog: of three tables: one with a key of one column, one that is all key, one with a key of two kinds.
func catalog() []api.Table {
	return []api.Table{
		{Name: "t", Keys: 1, Columns: []api.Column{column("a", api.Int, false), column("b", api.Text, true)}},
		{Name: "u", Keys: 2, Columns: []api.Column{column("a", api.Int, false), column("b", api.Int, false)}},
		{Name: "shops", Keys: 2, Columns: []api.Column{column("name", api.Text, false), column("open", api.Bool, false), column("no", api.Int, true), column("big", api.Bool, true)}},
	}
}

// names: of the catalog's tables, and of some that aren't there.
func names() []string { return []string{"t", "u", "shops", "", "v", "T", "shop", "a", "\xff"} }

func made(t *testing.T) *Store {
	t.Helper()
	s, e := New(catalog())
	if e != api.OK {
		t.Fatalf("New: %d", e)
	}
	return s
}

// done: a commit that must be taken.
func done(t *testing.T, s *Store, ops ...api.Op) api.Commit {
	t.Helper()
	c, e := s.Commit(ops)
	if e != api.OK {
		t.Fatalf("Commit of %v: %d", ops, e)
	}
	return c
}

// at: a version's snapshot, which must be there.
func at(t *testing.T, s *Store, version int) *Snapshot {
	t.Helper()
	p, e := s.At(version)
	if e != api.OK {
		t.Fatalf("At(%d): %d", version, e)
	}
	return p
}

// rowsOf: a table's rows, which must be there.
func rowsOf(t *testing.T, p *Snapshot, table string) []api.Row {
	t.Helper()
	l, e := p.Rows(table)
	if e != api.OK {
		t.Fatalf("Rows(%q): %d", table, e)
	}
	return l
}

func sameRows(a, b []api.Row) bool { return slices.EqualFunc(a, b, slices.Equal) }

// sameRow: the same, a row that is none told from one that is.
func sameRow(a, b api.Row) bool { return (a == nil) == (b == nil) && slices.Equal(a, b) }

func sameChanges(a, b []api.Change) bool {
	return slices.EqualFunc(a, b, func(x, y api.Change) bool {
		return x.Table == y.Table && sameRow(x.Old, y.Old) && sameRow(x.New, y.New)
	})
}

func sameCommit(a, b api.Commit) bool {
	return a.Version == b.Version && sameChanges(a.Changes, b.Changes)
}

func sameCommits(a, b []api.Commit) bool { return slices.EqualFunc(a, b, sameCommit) }

func sameCatalog(a, b []api.Table) bool {
	return slices.EqualFunc(a, b, func(x, y api.Table) bool {
		return x.Name == y.Name && x.Keys == y.Keys && slices.Equal(x.Columns, y.Columns)
	})
}

// P9.1: New of catalogs, and what a store is at first.
func TestNew(t *testing.T) {
	six := make([]api.Table, api.MaxTables)
	for n := range six {
		six[n] = catalog()[0]
		six[n].Name = strings.Repeat("t", n+1)
	}
	for _, l := range [][]api.Table{nil, {}, catalog()[:1], catalog(), six} {
		s, e := New(l)
		if e != api.OK || s == nil {
			t.Fatalf("New(%v): %d", l, e)
		}
		if s.Version() != 0 || !sameCatalog(s.Catalog(), l) {
			t.Errorf("a new one: version %d, catalog %v, want %v", s.Version(), s.Catalog(), l)
		}
		for _, p := range []*Snapshot{s.Now(), at(t, s, 0)} {
			if p.Version() != 0 || !sameCatalog(p.Catalog(), l) {
				t.Errorf("a new one's snapshot: version %d, catalog %v", p.Version(), p.Catalog())
			}
			for _, x := range l {
				if len(rowsOf(t, p, x.Name)) != 0 || p.Len(x.Name) != 0 {
					t.Errorf("a new one's table %s: %v", x.Name, rowsOf(t, p, x.Name))
				}
			}
		}
		if c, e := s.Since(0); e != api.OK || len(c) != 0 {
			t.Errorf("Since(0) of a new one: %v, %d", c, e)
		}
	}
}

// P9.1: New of what is no catalog answers schema.Check's error.
func TestNewWrong(t *testing.T) {
	spoils := []func(l []api.Table) []api.Table{
		func(l []api.Table) []api.Table { return append(l, l[0]) },
		func(l []api.Table) []api.Table { return append(l, make([]api.Table, api.MaxTables)...) },
		func(l []api.Table) []api.Table { return slices.Concat(l, l, l) },
		func(l []api.Table) []api.Table { return append(l, api.Table{}) },
		func(l []api.Table) []api.Table { l[1].Name = ""; return l },
		func(l []api.Table) []api.Table { l[0].Columns = nil; return l },
		func(l []api.Table) []api.Table { l[2].Keys = 0; return l },
		func(l []api.Table) []api.Table { l[2].Keys = math.MaxInt; return l },
		func(l []api.Table) []api.Table { l[2].Columns[1].Null = true; return l },
		func(l []api.Table) []api.Table { l[2].Columns[3].Kind = api.Null; return l },
		func(l []api.Table) []api.Table { l[1].Columns[1].Name = "a"; return l },
	}
	seen := map[api.Errno]bool{}
	for n, spoil := range spoils {
		l := spoil(catalog())
		_, want := schema.Check(l)
		if s, e := New(l); s != nil || e != want || e == api.OK {
			t.Errorf("New of wrong tables %d: %v, %d, want %d", n, s, e, want)
		}
		seen[want] = true
	}
	for _, e := range []api.Errno{api.ErrFull, api.ErrForm, api.ErrTwice} {
		if !seen[e] {
			t.Errorf("no tables are wrong by %d", e)
		}
	}
}

// P9.1: the chapter's examples.
func TestExamples(t *testing.T) {
	s := made(t)
	c := done(t, s, put("t", number(1), text("a")), put("t", number(2), text("b")))
	if len(c.Changes) != 2 || c.Version != 1 || s.Version() != 1 {
		t.Errorf("Puts of 1 and 2: %v", c)
	}
	c = done(t, s, put("t", number(1), text("a")))
	if len(c.Changes) != 0 || c.Version != 2 || s.Version() != 2 {
		t.Errorf("a Put of 1 again: %v", c)
	}
	c, e := s.Commit([]api.Op{del("t", number(3))})
	if e != api.ErrNone || c.Version != 0 || len(c.Changes) != 0 || s.Version() != 2 {
		t.Errorf("a Delete of 3: %v, %d, version %d", c, e, s.Version())
	}
}

// P9.1: what a commit changes, in the order of operations: rows that come, go, are others, and stay.
func TestChanges(t *testing.T) {
	s := made(t)
	one, two, none := api.Row{number(1), text("x")}, api.Row{number(2), {}}, api.Row{number(2), text("")}
	shop, other := api.Row{text("a"), truth(1), number(-7), truth(0)}, api.Row{text("a"), truth(1), {}, {}}
	for n, c := range []struct {
		ops  []api.Op
		want []api.Change
	}{
		{[]api.Op{put("t", two...), put("shops", shop...), put("t", one...)}, []api.Change{{Table: "t", New: two}, {Table: "shops", New: shop}, {Table: "t", New: one}}},
		{[]api.Op{put("t", two...), put("t", one...), put("shops", shop...)}, nil},
		{[]api.Op{put("t", none...), put("t", one...), put("u", row(2, 1)...)}, []api.Change{{Table: "t", Old: two, New: none}, {Table: "u", New: row(2, 1)}}},
		{[]api.Op{put("u", row(2, 1)...)}, nil},
		{[]api.Op{put("u", row(1, 2)...), del("u", row(2, 1)...), del("t", number(1))}, []api.Change{{Table: "u", New: row(1, 2)}, {Table: "u", Old: row(2, 1)}, {Table: "t", Old: one}}},
		{[]api.Op{put("shops", other...), put("t", one...)}, []api.Change{{Table: "shops", Old: shop, New: other}, {Table: "t", New: one}}},
		{[]api.Op{del("shops", text("a"), truth(1)), del("t", number(2)), del("u", row(1, 2)...), del("t", number(1))}, []api.Change{{Table: "shops", Old: other}, {Table: "t", Old: none}, {Table: "u", Old: row(1, 2)}, {Table: "t", Old: one}}},
	} {
		if got := done(t, s, c.ops...); !sameCommit(got, api.Commit{Version: n + 1, Changes: c.want}) {
			t.Errorf("commit %d: %v, want %v", n+1, got, c.want)
		}
		if l, e := s.Since(n); e != api.OK || !sameCommits(l, []api.Commit{{Version: n + 1, Changes: c.want}}) {
			t.Errorf("Since(%d): %v, %d", n, l, e)
		}
	}
	for _, name := range []string{"t", "u", "shops"} {
		if s.Now().Len(name) != 0 {
			t.Errorf("%s has %v at last", name, rowsOf(t, s.Now(), name))
		}
	}
}

// P9.1: one key in several tables is several rows, which one commit may put, and delete.
func TestTablesApart(t *testing.T) {
	l := catalog()[:2]
	twin := catalog()[0]
	twin.Name = "twin"
	s, e := New(append(l, twin))
	if e != api.OK {
		t.Fatalf("New: %d", e)
	}
	one, two := api.Row{number(1), null}, api.Row{number(2), text("x")}
	c := done(t, s, put("t", one...), put("twin", one...), put("u", row(1, 1)...), put("twin", two...))
	if !sameChanges(c.Changes, []api.Change{{Table: "t", New: one}, {Table: "twin", New: one}, {Table: "u", New: row(1, 1)}, {Table: "twin", New: two}}) {
		t.Errorf("commit 1: %v", c)
	}
	c = done(t, s, del("twin", number(1)), put("t", number(1), text("y")), put("u", row(2, 2)...))
	if !sameChanges(c.Changes, []api.Change{{Table: "twin", Old: one}, {Table: "t", Old: one, New: api.Row{number(1), text("y")}}, {Table: "u", New: row(2, 2)}}) {
		t.Errorf("commit 2: %v", c)
	}
	for name, want := range map[string][]api.Row{"t": {{number(1), text("y")}}, "twin": {two}, "u": {row(1, 1), row(2, 2)}} {
		if got := rowsOf(t, s.Now(), name); !sameRows(got, want) {
			t.Errorf("%s: %v, want %v", name, got, want)
		}
	}
	if _, e := s.Commit([]api.Op{del("t", number(2))}); e != api.ErrNone {
		t.Errorf("a Delete of a key that another table has: %d", e)
	}
}

// P9.1: Rows, Get and Len: rows by their keys, whatever order they came in; none of a table, or a key, that isn't there.
func TestSnapshot(t *testing.T) {
	s := made(t)
	keys := []api.Row{
		{text(""), truth(0)}, {text(""), truth(1)}, {text("\x00"), truth(0)}, {text("A"), truth(1)}, {text("a"), truth(0)}, {text("a"), truth(1)}, {text("ab"), truth(0)}, {text("\xff"), truth(1)},
	}
	var want []api.Row
	for n, k := range keys {
		want = append(want, slices.Concat(k, api.Row{number(-n), {}}))
	}
	for n := range want {
		done(t, s, put("shops", want[n*3%len(want)]...))
	}
	p := s.Now()
	if l := rowsOf(t, p, "shops"); !sameRows(l, want) || p.Len("shops") != len(want) {
		t.Errorf("Rows: %v, want %v", l, want)
	}
	for n, k := range keys {
		if r, ok := p.Get("shops", k); !ok || !slices.Equal(r, want[n]) {
			t.Errorf("Get(%v): %v, %v", k, r, ok)
		}
	}
	nowhere := []api.Row{
		nil, {}, {text("a")}, {text("a"), truth(1), {}}, want[0], {text("b"), truth(0)}, {truth(0), text("a")}, {{}, {}}, row(1, 2),
		{text("a"), truth(2)}, {text("a"), {Kind: api.Bool, Num: 1, Text: "x"}}, {{Kind: 9}, {Kind: -1}}, {text(strings.Repeat("a", 1000)), truth(1)},
	}
	for _, k := range nowhere {
		if r, ok := p.Get("shops", k); ok || r != nil {
			t.Errorf("Get(%v): %v, %v", k, r, ok)
		}
	}
	for _, name := range names()[3:] {
		if l, e := p.Rows(name); e != api.ErrTable || len(l) != 0 || p.Len(name) != 0 {
			t.Errorf("Rows(%q): %v, %d", name, l, e)
		}
		for _, k := range append(nowhere, keys...) {
			if r, ok := p.Get(name, k); ok || r != nil {
				t.Errorf("Get(%q, %v): %v, %v", name, k, r, ok)
			}
		}
	}
}

// P9.1: At and Since, at each version from far below the horizon to far above the store's, behind each of many commits.
func TestVersions(t *testing.T) {
	s := made(t)
	for n := 0; n <= 3*api.MaxLog; n++ {
		if n > 0 {
			done(t, s, put("t", number(n), null))
		}
		horizon := max(0, n-api.MaxLog)
		for _, v := range []int{math.MinInt, math.MinInt + n, -1 << 40, -1, 0, 1, horizon - 1, horizon, horizon + 1, (horizon + n) / 2, n - 1, n, n + 1, n + 2, 1 << 40, math.MaxInt - n, math.MaxInt} {
			want := api.OK
			switch {
			case v > n:
				want = api.ErrRange
			case v < horizon:
				want = api.ErrGone
			}
			p, e := s.At(v)
			if e != want || (p == nil) != (want != api.OK) {
				t.Fatalf("At(%d) of %d: %v, %d, want %d", v, n, p, e, want)
			}
			l, e := s.Since(v)
			if e != want || want != api.OK && len(l) > 0 {
				t.Fatalf("Since(%d) of %d: %v, %d, want %d", v, n, l, e, want)
			}
			if want != api.OK {
				continue
			}
			if p.Version() != v || p.Len("t") != v || len(l) != n-v {
				t.Fatalf("At(%d) of %d: version %d, %d rows; %d commits since", v, n, p.Version(), p.Len("t"), len(l))
			}
			for k, c := range l {
				if !sameCommit(c, api.Commit{Version: v + k + 1, Changes: []api.Change{{Table: "t", New: api.Row{number(v + k + 1), {}}}}}) {
					t.Fatalf("Since(%d) of %d: %v", v, n, l)
				}
			}
		}
		if p := s.Now(); p.Version() != n || s.Version() != n || p.Len("t") != n {
			t.Fatalf("Now: version %d, %d rows, want %d", p.Version(), p.Len("t"), n)
		}
	}
}

// What is below the horizon isn't held on to.
func TestLetGo(t *testing.T) {
	s := made(t)
	for n := range 500 {
		done(t, s, put("t", number(n%7), null))
		if len(s.kept) != min(n+1, api.MaxLog)+1 || cap(s.kept) > 3*api.MaxLog {
			t.Fatalf("%d snapshots behind %d commits, room for %d", len(s.kept), n+1, cap(s.kept))
		}
		for _, p := range s.kept[len(s.kept):cap(s.kept)] {
			if p.trees != (Snapshot{}).trees {
				t.Fatalf("behind %d commits a place that isn't in use holds version %d", n+1, p.version)
			}
		}
	}
}
