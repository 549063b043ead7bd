package journal

import (
	"math"
	"slices"
	"strconv"
	"testing"

	"stillroom/api"
)

// highest: the greatest version.
const highest = 1 << 40

func number(n int) api.Value { return api.Value{Kind: api.Int, Num: n} }

func text(s string) api.Value { return api.Value{Kind: api.Text, Text: s} }

// commit: of a version; what it changed tells it from all others.
func commit(version int) api.Commit {
	name := "t" + strconv.Itoa(version)
	return api.Commit{Version: version, Changes: []api.Change{
		{Table: name, New: api.Row{number(version), text(name)}},
		{Table: name, Old: api.Row{number(version)}, New: api.Row{number(version), {}}},
		{Table: name, Old: api.Row{text(name)}},
	}}
}

// commits: of the versions behind one, up to another.
func commits(behind, to int) []api.Commit {
	var out []api.Commit
	for v := behind + 1; v <= to; v++ {
		out = append(out, commit(v))
	}
	return out
}

func sameCommits(a, b []api.Commit) bool {
	return slices.EqualFunc(a, b, func(x, y api.Commit) bool {
		return x.Version == y.Version && slices.EqualFunc(x.Changes, y.Changes, func(x, y api.Change) bool {
			return x.Table == y.Table && sameRow(x.Old, y.Old) && sameRow(x.New, y.New)
		})
	})
}

// sameRow: the same, a row that is none told from one that is.
func sameRow(a, b api.Row) bool { return (a == nil) == (b == nil) && slices.Equal(a, b) }

func made(t *testing.T, room, at int) *Journal {
	t.Helper()
	j, e := New(room, at)
	if e != api.OK {
		t.Fatalf("New(%d, %d): %d", room, at, e)
	}
	return j
}

// filled: with the commits of the next n versions.
func filled(t *testing.T, room, at, n int) *Journal {
	t.Helper()
	j := made(t, room, at)
	for _, c := range commits(at, at+n) {
		if e := j.Append(c); e != api.OK {
			t.Fatalf("Append(%d): %d", c.Version, e)
		}
	}
	return j
}

// model: what a journal has, as the words tell it: the versions of its commits, each by itself.
type model struct {
	room, end int
	kept      []int
}

func (m model) horizon() int {
	if len(m.kept) == 0 {
		return m.end
	}
	return m.kept[0] - 1
}

func (m model) since(version int) ([]api.Commit, api.Errno) {
	if version > m.end {
		return nil, api.ErrRange
	}
	if version < m.horizon() {
		return nil, api.ErrGone
	}
	var out []api.Commit
	for _, v := range m.kept {
		if v > version {
			out = append(out, commit(v))
		}
	}
	return out, api.OK
}

func (m model) add(version int) (model, api.Errno) {
	if version > highest || version != m.end+1 {
		return m, api.ErrRange
	}
	kept := append(slices.Clone(m.kept), version)
	if len(kept) > m.room {
		kept = kept[1:]
	}
	return model{m.room, version, kept}, api.OK
}

func (m model) cut(version int) (model, api.Errno) {
	if version > m.end {
		return m, api.ErrRange
	}
	kept := slices.DeleteFunc(slices.Clone(m.kept), func(v int) bool { return v <= version })
	return model{m.room, m.end, kept}, api.OK
}

// around: versions far from, and near to, those that a journal with this end may know of.
func around(end int) []int {
	out := []int{math.MinInt, math.MinInt + 1, -highest, -1, 0, 1, highest, highest + 1, math.MaxInt - 1, math.MaxInt}
	for v := end - 6; v <= end+3; v++ {
		out = append(out, v)
	}
	return out
}

// same: does a journal answer all that the model says?
func (m model) same(t *testing.T, j *Journal) {
	t.Helper()
	if j.End() != m.end || j.Horizon() != m.horizon() {
		t.Fatalf("end %d, horizon %d, want %d, %d", j.End(), j.Horizon(), m.end, m.horizon())
	}
	for _, v := range around(m.end) {
		l, e := j.Since(v)
		want, wantE := m.since(v)
		if e != wantE || !sameCommits(l, want) {
			t.Fatalf("Since(%d): %v, %d, want %v, %d", v, l, e, want, wantE)
		}
	}
}

// P8.1: New takes the least and the greatest of each, and none outside.
func TestNew(t *testing.T) {
	for _, room := range []int{1, 2, api.MaxLog, 999, 1000} {
		for _, at := range []int{0, 1, 7, highest - 1, highest} {
			j := made(t, room, at)
			model{room: room, end: at}.same(t, j)
		}
	}
	for _, c := range [][2]int{
		{math.MinInt, 0}, {-1, 0}, {0, 0}, {0, highest}, {1001, 0}, {1001, highest}, {math.MaxInt, 0},
		{1, math.MinInt}, {1, -1}, {1000, -1}, {1, highest + 1}, {1000, highest + 1}, {1, math.MaxInt}, {0, -1}, {1001, highest + 1},
	} {
		if j, e := New(c[0], c[1]); j != nil || e != api.ErrRange {
			t.Errorf("New%v: %v, %d", c, j, e)
		}
	}
}

// P8.1: the chapter's example.
func TestExample(t *testing.T) {
	j := filled(t, 2, 0, 3)
	if j.End() != 3 || j.Horizon() != 1 {
		t.Errorf("end %d, horizon %d", j.End(), j.Horizon())
	}
	if l, e := j.Since(0); len(l) != 0 || e != api.ErrGone {
		t.Errorf("Since(0): %v, %d", l, e)
	}
	if l, e := j.Since(1); !sameCommits(l, commits(1, 3)) || e != api.OK {
		t.Errorf("Since(1): %v, %d", l, e)
	}
}

// step: one call to a journal and to its model; the numbers from 0 on mean each call that matters at this end.
func step(t *testing.T, j *Journal, m model, n int) model {
	t.Helper()
	var e, want api.Errno
	if n == 0 {
		m, want = m.add(m.end + 1)
		e = j.Append(commit(j.End() + 1))
	} else {
		v := m.end + 2 - n
		m, want = m.cut(v)
		e = j.Cut(v)
	}
	if e != want {
		t.Fatalf("step %d: %d, want %d", n, e, want)
	}
	return m
}

// P8.1: all rows of six calls, Append and Cuts at, ahead of and behind the end and the horizon.
func TestAllCalls(t *testing.T) {
	const calls, kinds = 6, 6
	for _, at := range []int{0, 9, highest - 2} {
		for room := 1; room <= 3; room++ {
			var each func(past []int)
			each = func(past []int) {
				if len(past) < calls {
					for n := range kinds {
						each(append(past, n))
					}
					return
				}
				j, m := made(t, room, at), model{room: room, end: at}
				for _, n := range past {
					m = step(t, j, m, n)
				}
				if j.End() != m.end || j.Horizon() != m.horizon() {
					t.Fatalf("room %d, at %d, %v: end %d, horizon %d, want %d, %d", room, at, past, j.End(), j.Horizon(), m.end, m.horizon())
				}
				if l, e := j.Since(m.horizon()); e != api.OK || !sameCommits(l, commits(m.horizon(), m.end)) {
					t.Fatalf("room %d, at %d, %v: Since(%d): %v, %d", room, at, past, m.horizon(), l, e)
				}
			}
			each(make([]int, 0, calls))
		}
	}
}

// P8.1: long rows of calls, all that is told looked at behind each.
func TestLongRows(t *testing.T) {
	for _, room := range []int{1, 2, 5, api.MaxLog} {
		j, m := made(t, room, 3), model{room: room, end: 3}
		for n := range 400 {
			call := 0
			if n%11 == 10 {
				call = n / 11 % 8
			}
			m = step(t, j, m, call)
			m.same(t, j)
		}
	}
}

// P8.1: Append takes the version behind the end alone; one that is refused changes nothing.
func TestAppendVersions(t *testing.T) {
	for _, n := range []int{0, 1, 2, 3, 5} {
		j, m := filled(t, 3, 4, n), model{room: 3, end: 4}
		for range n {
			m, _ = m.add(m.end + 1)
		}
		for _, v := range around(m.end) {
			if v == m.end+1 {
				continue
			}
			if e := j.Append(commit(v)); e != api.ErrRange {
				t.Errorf("Append(%d) behind %d: %d", v, m.end, e)
			}
			m.same(t, j)
		}
		m = step(t, j, m, 0)
		m.same(t, j)
	}
}

// P8.1: the greatest version is taken, one more isn't.
func TestGreatestVersion(t *testing.T) {
	j := filled(t, 2, highest-3, 3)
	m := model{room: 2, end: highest, kept: []int{highest - 1, highest}}
	m.same(t, j)
	for _, v := range []int{highest + 1, highest, highest + 2} {
		if e := j.Append(commit(v)); e != api.ErrRange {
			t.Errorf("Append(%d): %d", v, e)
		}
		m.same(t, j)
	}
	if e := made(t, 1, highest).Append(commit(highest + 1)); e != api.ErrRange {
		t.Errorf("Append to a new one: %d", e)
	}
}

// P8.1: Cut at each version, and what is appended behind it.
func TestCut(t *testing.T) {
	for n := range 6 {
		for _, v := range around(10 + n) {
			j, m := filled(t, 4, 10, n), model{room: 4, end: 10}
			for range n {
				m, _ = m.add(m.end + 1)
			}
			m, want := m.cut(v)
			if e := j.Cut(v); e != want {
				t.Errorf("Cut(%d) of %d commits: %d, want %d", v, n, e, want)
			}
			m.same(t, j)
			for range 6 {
				m = step(t, j, m, 0)
				m.same(t, j)
			}
		}
	}
}

// P8.1: the greatest room holds a thousand, and no more.
func TestGreatestRoom(t *testing.T) {
	j := filled(t, 1000, 0, 1000)
	if l, e := j.Since(0); e != api.OK || !sameCommits(l, commits(0, 1000)) {
		t.Errorf("Since(0): %d commits, %d", len(l), e)
	}
	for v := 1001; v <= 3500; v++ {
		if e := j.Append(commit(v)); e != api.OK || j.End() != v || j.Horizon() != v-1000 {
			t.Fatalf("Append(%d): %d, end %d, horizon %d", v, e, j.End(), j.Horizon())
		}
	}
	if l, e := j.Since(2500); e != api.OK || !sameCommits(l, commits(2500, 3500)) {
		t.Errorf("Since(2500): %d commits, %d", len(l), e)
	}
	if l, e := j.Since(2499); len(l) != 0 || e != api.ErrGone {
		t.Errorf("Since(2499): %d commits, %d", len(l), e)
	}
	if e := j.Cut(3499); e != api.OK || j.Horizon() != 3499 {
		t.Errorf("Cut(3499): %d, horizon %d", e, j.Horizon())
	}
}

// P8.1: a commit is told as it came, with changes and rows of any kind: none, empty ones, ones that aren't good.
func TestAnyCommit(t *testing.T) {
	l := []api.Commit{
		{Version: 1},
		{Version: 2, Changes: []api.Change{}},
		{Version: 3, Changes: []api.Change{{}}},
		{Version: 4, Changes: []api.Change{{Old: api.Row{}}, {New: api.Row{}}, {Old: api.Row{}, New: api.Row{}}}},
		{Version: 5, Changes: []api.Change{{Table: "\xff no name", Old: api.Row{{Kind: 9, Num: -1, Text: "both"}}, New: api.Row{{Kind: api.Bool, Num: 2}}}}},
		{Version: 6, Changes: make([]api.Change, 3*api.MaxBatch)},
		{Version: 7, Changes: []api.Change{{Table: "b"}, {Table: "a"}, {Table: "b"}}},
	}
	j := made(t, len(l), 0)
	for _, c := range l {
		if e := j.Append(c); e != api.OK {
			t.Errorf("Append(%v): %d", c, e)
		}
	}
	for v := range len(l) + 1 {
		if got, e := j.Since(v); e != api.OK || !sameCommits(got, l[v:]) {
			t.Errorf("Since(%d): %v, %d, want %v", v, got, e, l[v:])
		}
	}
}

// P8.2: from each version that is told, what comes is each version behind it, once, in order, up to the end; who goes on by that never misses one.
func TestWithoutGap(t *testing.T) {
	for _, room := range []int{1, 2, 3, 7, api.MaxLog} {
		j, at := made(t, room, 0), 0
		for v := 1; v <= 150; v++ {
			if e := j.Append(commit(v)); e != api.OK {
				t.Fatalf("Append(%d): %d", v, e)
			}
			if v%13 == 0 {
				j.Cut(v - room/2)
			}
			for from := j.Horizon(); from <= j.End(); from++ {
				if l, e := j.Since(from); e != api.OK || len(l) != v-from || !sameCommits(l, commits(from, v)) {
					t.Fatalf("room %d: Since(%d) at %d: %v, %d", room, from, v, l, e)
				}
			}
			if v%room != 0 {
				continue
			}
			l, e := j.Since(at)
			if e == api.ErrGone {
				at = j.Horizon()
				l, _ = j.Since(at)
			}
			for _, c := range l {
				if c.Version != at+1 {
					t.Fatalf("room %d: %d comes behind %d", room, c.Version, at)
				}
				at = c.Version
			}
			if at != v {
				t.Fatalf("room %d: at %d, want %d", room, at, v)
			}
		}
	}
}
