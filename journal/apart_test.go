package journal

import (
	"slices"
	"testing"

	"stillroom/api"
)

// roomy: a copy of a list, with room behind it that holds spare.
func roomy[L ~[]E, E any](l L, spare ...E) L {
	return append(slices.Grow(slices.Clone(l), len(spare)), spare...)[:len(l)]
}

// lent: a commit whose lists have spare room, all of which holds something.
func lent(version int) api.Commit {
	c := commit(version)
	row := func(r api.Row) api.Row {
		if r == nil {
			return nil
		}
		return roomy(r, number(77), text("spare"))
	}
	for n, x := range c.Changes {
		c.Changes[n].Old, c.Changes[n].New = row(x.Old), row(x.New)
	}
	c.Changes = roomy(c.Changes, api.Change{Table: "spare", Old: api.Row{number(1)}, New: api.Row{number(2)}})
	return c
}

// whole: a commit with its spare room told as if it were part of it, in new memory.
func whole(c api.Commit) api.Commit {
	c.Changes = slices.Clone(c.Changes[:cap(c.Changes)])
	for n, x := range c.Changes {
		c.Changes[n].Old, c.Changes[n].New = slices.Clone(x.Old[:cap(x.Old)]), slices.Clone(x.New[:cap(x.New)])
	}
	return c
}

// spoil overwrites a commit, its spare room too.
func spoil(c *api.Commit) {
	c.Version = -5
	for n := range c.Changes[:cap(c.Changes)] {
		x := &c.Changes[:cap(c.Changes)][n]
		for _, r := range []api.Row{x.Old, x.New} {
			for k := range r[:cap(r)] {
				r[:cap(r)][k] = text("gone")
			}
		}
		*x = api.Change{Table: "gone", Old: api.Row{text("gone")}}
	}
}

// P8.3: what is handed in stays, spare room too, whatever is done with the journal, and with what it answers.
func TestHandedInStays(t *testing.T) {
	j := made(t, 3, 0)
	var was, is []api.Commit
	for v := 1; v <= 8; v++ {
		c := lent(v)
		was, is = append(was, whole(c)), append(is, c)
		j.Append(c)
		j.Append(c)
		l, _ := j.Since(j.Horizon())
		for n := range l {
			spoil(&l[n])
		}
		if v == 6 {
			j.Cut(5)
		}
	}
	for n, c := range is {
		if !sameCommits([]api.Commit{whole(c)}, was[n:n+1]) {
			t.Errorf("a commit that was handed in is now %v, was %v", whole(c), was[n])
		}
	}
}

// P8.3: what is handed in isn't kept.
func TestNotKept(t *testing.T) {
	j := made(t, 4, 0)
	for v := 1; v <= 9; v++ {
		c := lent(v)
		j.Append(c)
		spoil(&c)
		wrong := lent(v)
		j.Append(wrong)
		spoil(&wrong)
	}
	if l, e := j.Since(5); e != api.OK || !sameCommits(l, commits(5, 9)) {
		t.Errorf("Since(5): %v, %d", l, e)
	}
}

// P8.3: one row that a commit has in two places, and one list that two commits have, are told as lists of their own.
func TestSharedApart(t *testing.T) {
	j := made(t, 2, 0)
	r := api.Row{number(1), number(2)}
	changes := []api.Change{{Table: "a", Old: r, New: r}, {Table: "b", Old: r[:1], New: r[1:]}}
	j.Append(api.Commit{Version: 1, Changes: changes})
	j.Append(api.Commit{Version: 2, Changes: changes})
	l, _ := j.Since(0)
	for n := range l {
		for k := range l[n].Changes {
			x := l[n].Changes[k]
			if !slices.Equal(x.Old, changes[k].Old) || !slices.Equal(x.New, changes[k].New) {
				t.Errorf("commit %d, change %d: %v", n, k, x)
			}
			for _, r := range []api.Row{x.Old, x.New} {
				for i := range r[:cap(r)] {
					r[:cap(r)][i] = number(-9)
				}
			}
		}
	}
}

// P8.3: answers are new memory: the journal doesn't change by them, nor another answer, nor the same one's other commits.
func TestAnswersApart(t *testing.T) {
	j := filled(t, 6, 0, 9)
	a, _ := j.Since(3)
	b, _ := j.Since(3)
	for n := range a {
		spoil(&a[n])
		if !sameCommits(a[n+1:], commits(4+n, 9)) {
			t.Errorf("with commit %d of an answer its others went: %v", n, a)
		}
	}
	for n := range a[:cap(a)] {
		a[:cap(a)][n] = commit(1)
	}
	if !sameCommits(b, commits(3, 9)) {
		t.Errorf("with one answer another one went: %v", b)
	}
	if l, e := j.Since(3); e != api.OK || !sameCommits(l, commits(3, 9)) {
		t.Errorf("with an answer what is kept went: %v, %d", l, e)
	}
}

// P8.3: an answer stays, whatever is done with the journal.
func TestAnswersStay(t *testing.T) {
	j := filled(t, 3, 0, 3)
	l, _ := j.Since(0)
	for v := 4; v < 20; v++ {
		j.Append(commit(v))
		if v%5 == 0 {
			j.Cut(v - 1)
		}
	}
	if !sameCommits(l, commits(0, 3)) {
		t.Errorf("an answer went with the journal: %v", l)
	}
}

// R8: each journal keeps its own.
func TestJournalsApart(t *testing.T) {
	a, b := made(t, 3, 0), made(t, 2, 1)
	for v := 1; v <= 5; v++ {
		a.Append(commit(v))
		b.Append(api.Commit{Version: v})
	}
	a.Cut(3)
	model{room: 3, end: 5, kept: []int{4, 5}}.same(t, a)
	if l, e := b.Since(3); e != api.OK || !sameCommits(l, []api.Commit{{Version: 4}, {Version: 5}}) {
		t.Errorf("Since(3): %v, %d", l, e)
	}
}

// What is gone isn't held on to: neither as a commit, nor as a place that is never used again.
func TestLetGo(t *testing.T) {
	j := filled(t, 5, 0, 5)
	places := j.kept
	j.Cut(2)
	for n, c := range places {
		if gone := c.Changes == nil; gone != (n < 2) {
			t.Errorf("behind Cut(2) the place of commit %d: %v", n+1, c)
		}
	}
	for v := 6; v <= 2000; v++ {
		places = j.kept
		j.Append(commit(v))
		if len(places) == 5 && cap(places) > 5 && places[0].Changes != nil {
			t.Fatalf("behind Append(%d) the place of the first: %v", v, places[0])
		}
		if cap(j.kept) > 20 {
			t.Fatalf("%d places for 5 commits", cap(j.kept))
		}
	}
}
