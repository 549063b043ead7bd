package store

import (
	"maps"
	"slices"
	"strconv"
	"strings"
	"testing"

	"stillroom/api"
	"stillroom/value"
)

// toldRow: a row as a text; another one of each other row, and of none.
func toldRow(r api.Row) string {
	if r == nil {
		return "none"
	}
	var l []string
	for _, v := range r {
		l = append(l, value.Text(v))
	}
	return "(" + strings.Join(l, ", ") + ")"
}

// told: a snapshot as a text: its version, its catalog's names, all rows.
func told(p *Snapshot) string {
	out := strconv.Itoa(p.Version())
	for _, x := range p.Catalog() {
		out += "; " + x.Name + " " + strconv.Itoa(p.Len(x.Name)) + ":"
		l, _ := p.Rows(x.Name)
		for _, r := range l {
			out += " " + toldRow(r)
		}
	}
	return out
}

func toldCommits(l []api.Commit) string {
	out := ""
	for _, c := range l {
		out += "; " + strconv.Itoa(c.Version) + ":"
		for _, x := range c.Changes {
			out += " " + x.Table + " " + toldRow(x.Old) + toldRow(x.New)
		}
	}
	return out
}

// model: what a store is, as the words tell it: of each version its tables' rows by the texts of their keys, and what led to it.
type model struct {
	tables  []map[string]map[string]api.Row
	commits []api.Commit
}

func first() model {
	l := map[string]map[string]api.Row{}
	for _, x := range catalog() {
		l[x.Name] = map[string]api.Row{}
	}
	return model{tables: []map[string]map[string]api.Row{l}, commits: []api.Commit{{}}}
}

func (m model) version() int { return len(m.tables) - 1 }

// fits: has a row a good value of each column's kind, or a null where one may be?
func fits(l []api.Column, r api.Row) bool {
	for n, v := range r {
		if n >= len(l) || !value.Good(v) || v.Kind != l[n].Kind && (v.Kind != api.Null || !l[n].Null) {
			return false
		}
	}
	return len(r) == len(l)
}

// commit: the model behind it, and its error.
func (m model) commit(ops []api.Op) (model, api.Errno) {
	if len(ops) == 0 {
		return m, api.ErrRange
	}
	if len(ops) > api.MaxBatch {
		return m, api.ErrFull
	}
	now := map[string]map[string]api.Row{}
	for name, rows := range m.tables[m.version()] {
		now[name] = maps.Clone(rows)
	}
	c := api.Commit{Version: m.version() + 1}
	ahead := map[string]bool{}
	for _, o := range ops {
		if o.Kind != api.Put && o.Kind != api.Delete {
			return m, api.ErrRange
		}
		k := slices.IndexFunc(catalog(), func(x api.Table) bool { return x.Name == o.Table })
		if k < 0 {
			return m, api.ErrTable
		}
		x := catalog()[k]
		width := len(x.Columns)
		if o.Kind == api.Delete {
			width = x.Keys
		}
		if !fits(x.Columns[:width], o.Row) {
			return m, api.ErrRow
		}
		key := toldRow(o.Row[:x.Keys])
		if ahead[x.Name+key] {
			return m, api.ErrKey
		}
		ahead[x.Name+key] = true
		was := now[x.Name][key]
		switch {
		case o.Kind == api.Delete && was == nil:
			return m, api.ErrNone
		case o.Kind == api.Delete:
			delete(now[x.Name], key)
			c.Changes = append(c.Changes, api.Change{Table: x.Name, Old: was})
		case toldRow(was) != toldRow(o.Row):
			now[x.Name][key] = o.Row
			c.Changes = append(c.Changes, api.Change{Table: x.Name, Old: was, New: o.Row})
		}
	}
	for _, rows := range now {
		if len(rows) > api.MaxRows {
			return m, api.ErrFull
		}
	}
	return model{append(slices.Clip(m.tables), now), append(slices.Clip(m.commits), c)}, api.OK
}

// rows: a table's at a version, by their keys.
func (m model) rows(version int, table string) []api.Row {
	// A row begins with its key, and no two keys are the same.
	return slices.SortedFunc(maps.Values(m.tables[version][table]), value.Rows)
}

// told: a version's snapshot, as told tells one.
func (m model) told(version int) string {
	out := strconv.Itoa(version)
	for _, x := range catalog() {
		l := m.rows(version, x.Name)
		out += "; " + x.Name + " " + strconv.Itoa(len(l)) + ":"
		for _, r := range l {
			out += " " + toldRow(r)
		}
	}
	return out
}

// same: does a store answer all that the model says?
func (m model) same(t *testing.T, s *Store) {
	t.Helper()
	horizon := max(0, m.version()-api.MaxLog)
	if s.Version() != m.version() || told(s.Now()) != m.told(m.version()) {
		t.Fatalf("at %d: %s, want %s", s.Version(), told(s.Now()), m.told(m.version()))
	}
	for v := horizon - 2; v <= m.version()+2; v++ {
		want, since := api.OK, []api.Commit(nil)
		switch {
		case v > m.version():
			want = api.ErrRange
		case v < horizon:
			want = api.ErrGone
		default:
			since = m.commits[v+1:]
		}
		p, e := s.At(v)
		if e != want || e == api.OK && told(p) != m.told(v) {
			t.Fatalf("At(%d) of %d: %d, want %d", v, m.version(), e, want)
		}
		l, e := s.Since(v)
		if e != want || toldCommits(l) != toldCommits(since) {
			t.Fatalf("Since(%d) of %d: %v, %d, want %v, %d", v, m.version(), l, e, since, want)
		}
	}
}

// step: one commit to a store and to its model.
func step(t *testing.T, s *Store, m model, ops []api.Op) model {
	t.Helper()
	was := m.version()
	m, want := m.commit(ops)
	c, e := s.Commit(ops)
	if e != want || e == api.OK && !sameCommit(c, m.commits[m.version()]) || e != api.OK && (c.Version != 0 || c.Changes != nil) {
		t.Fatalf("Commit of %v at %d: %v, %d, want %v, %d", ops, was, c, e, m.commits[m.version()], want)
	}
	return m
}

// P9.1: all lists of up to four of some operations, behind one and the same list of commits.
func TestAllLists(t *testing.T) {
	some := []api.Op{
		put("t", number(1), text("a")), put("t", number(1), null), del("t", number(1)), put("t", number(2), text("a")), del("t", number(2)),
		put("u", row(1, 1)...), del("u", row(1, 1)...), put("u", row(1)...), del("v", number(1)), {Kind: 3, Table: "t", Row: row(1)},
	}
	var each func(ops []api.Op)
	each = func(ops []api.Op) {
		s, m := made(t), first()
		m = step(t, s, m, []api.Op{put("t", number(1), text("a")), put("u", row(1, 2)...)})
		m = step(t, s, m, ops)
		m.same(t, s)
		if len(ops) == 4 {
			return
		}
		for _, o := range some {
			each(append(slices.Clip(ops), o))
		}
	}
	each(nil)
}

// dice: numbers that come of one another.
type dice uint64

// below: the next number from 0 on, below n.
func (d *dice) below(n int) int {
	*d = *d*6364136223846793005 + 1442695040888963407
	return int(uint64(*d) >> 33 % uint64(n))
}

// gone: a Delete of a row that a table has, if it has one, and now and then of one that it may not have.
func (d *dice) gone(m model, x api.Table, other api.Row) api.Op {
	if l := m.rows(m.version(), x.Name); len(l) > 0 && d.below(20) > 0 {
		other = l[d.below(len(l))]
	}
	return del(x.Name, other[:x.Keys]...)
}

// op: one of many operations, most of them right.
func (d *dice) op(m model, keys int) api.Op {
	k, b := d.below(keys), []api.Value{null, text("x"), text("y")}[d.below(3)]
	name := text(strings.Repeat("s", k%9))
	if d.below(60) == 0 {
		return []api.Op{{}, put("v", number(1)), put("t", number(k)), del("u", row(k)...), put("u", number(k), b), {Kind: 9, Table: "t", Row: row(k)}}[d.below(6)]
	}
	switch l := catalog(); d.below(8) {
	case 0:
		return d.gone(m, l[0], row(k))
	case 1:
		return d.gone(m, l[1], row(k%3, k))
	case 2:
		return d.gone(m, l[2], api.Row{name, truth(k % 2)})
	case 3, 4:
		return put("u", row(k%3, k)...)
	case 5:
		return put("shops", name, truth(k%2), number(d.below(2)), null)
	}
	return put("t", number(k), b)
}

// ops: a list of up to most operations.
func (d *dice) ops(m model, most, keys int) []api.Op {
	var out []api.Op
	for range d.below(most) + 1 {
		out = append(out, d.op(m, keys))
	}
	return out
}

// P9.1: long rows of commits; all that is told is looked at, now and then.
func TestLongRows(t *testing.T) {
	for _, c := range []struct{ most, keys, commits, each int }{{1, 3, 200, 1}, {2, 5, 300, 1}, {4, 40, 300, 4}, {22, 2000, 300, 25}} {
		d := dice(c.keys)
		s, m := made(t), first()
		for n := range c.commits {
			m = step(t, s, m, d.ops(m, c.most, c.keys))
			if n%c.each == 0 {
				m.same(t, s)
			}
		}
		if m.version() < 2*api.MaxLog || m.version() > c.commits-10 {
			t.Errorf("of %d commits %d are taken", c.commits, m.version())
		}
	}
}

// P9.2: from each snapshot, the same or one that was taken long ago, what is told since it leads, change by change, to each version behind it.
func TestReplay(t *testing.T) {
	d := dice(7)
	s, m := made(t), first()
	for n := range 200 {
		m = step(t, s, m, d.ops(m, 5, 12))
		if n%9 != 0 {
			continue
		}
		for v := max(0, s.Version()-api.MaxLog); v <= s.Version(); v++ {
			replay(t, s, v)
		}
	}
}

// replay goes from a version's snapshot to the store's by what was changed.
func replay(t *testing.T, s *Store, version int) {
	t.Helper()
	p := at(t, s, version)
	rows := map[string]map[string]api.Row{}
	for _, x := range p.Catalog() {
		rows[x.Name] = map[string]api.Row{}
		for _, r := range rowsOf(t, p, x.Name) {
			rows[x.Name][toldRow(r[:x.Keys])] = r
		}
	}
	l, e := s.Since(version)
	if e != api.OK {
		t.Fatalf("Since(%d): %d", version, e)
	}
	keys := map[string]int{"t": 1, "u": 2, "shops": 2}
	for _, c := range l {
		for _, x := range c.Changes {
			if x.Old != nil {
				key := toldRow(x.Old[:keys[x.Table]])
				if toldRow(rows[x.Table][key]) != toldRow(x.Old) {
					t.Fatalf("commit %d: %v, but there is %v", c.Version, x, rows[x.Table][key])
				}
				delete(rows[x.Table], key)
			}
			if x.New != nil {
				key := toldRow(x.New[:keys[x.Table]])
				if rows[x.Table][key] != nil {
					t.Fatalf("commit %d: %v, but there is %v", c.Version, x, rows[x.Table][key])
				}
				rows[x.Table][key] = x.New
			}
		}
		p := at(t, s, c.Version)
		for name, l := range rows {
			if !sameRows(slices.SortedFunc(maps.Values(l), value.Rows), rowsOf(t, p, name)) {
				t.Fatalf("from %d to %d: %s is %v, want %v", version, c.Version, name, l, rowsOf(t, p, name))
			}
		}
	}
}

// P9.3: each snapshot, however it was come by, is as it was, whatever commits come, long behind the horizon too.
func TestSnapshotsStay(t *testing.T) {
	d := dice(3)
	s, m := made(t), first()
	type taken struct {
		p       *Snapshot
		version int
	}
	all := []taken{{s.Now(), 0}}
	for n := range 300 {
		m = step(t, s, m, d.ops(m, 6, 30))
		all = append(all, taken{s.Now(), m.version()})
		v := max(0, m.version()-n%(api.MaxLog+1))
		all = append(all, taken{at(t, s, v), v})
	}
	for _, x := range all {
		if told(x.p) != m.told(x.version) || x.p.Version() != x.version {
			t.Fatalf("a snapshot of %d is now %s, want %s", x.version, told(x.p), m.told(x.version))
		}
		for name, rows := range m.tables[x.version] {
			for k := range 30 {
				key := api.Row{number(k)}
				if name == "u" {
					key = row(k%3, k)
				} else if name == "shops" {
					key = api.Row{text(strings.Repeat("s", k%9)), truth(k % 2)}
				}
				if r, ok := x.p.Get(name, key); toldRow(r) != toldRow(rows[toldRow(key)]) || ok != (r != nil) {
					t.Fatalf("Get(%q, %v) at %d: %v, %v", name, key, x.version, r, ok)
				}
			}
		}
	}
}
