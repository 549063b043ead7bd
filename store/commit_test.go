package store

import (
	"errors"
	"math"
	"slices"
	"strings"
	"testing"

	"stillroom/api"
)

// bad: an operation that can't be done, with its error.
type bad struct {
	op   api.Op
	want api.Errno
}

// wrong: those upon filled's rows.
func wrong() []bad {
	long := text(strings.Repeat("x", api.MaxText+1))
	out := []bad{
		{put("", number(1), text("a")), api.ErrTable}, {put("v", number(1), text("a")), api.ErrTable}, {put("T"), api.ErrTable}, {del("a", number(1)), api.ErrTable}, {del("shop"), api.ErrTable},
		{put("t"), api.ErrRow}, {put("t", number(1)), api.ErrRow}, {put("t", number(1), null, null), api.ErrRow}, {put("t", null, text("a")), api.ErrRow}, {put("t", text("a"), number(1)), api.ErrRow},
		{put("t", number(1), number(1)), api.ErrRow}, {put("t", truth(1), null), api.ErrRow}, {put("t", number(1), long), api.ErrRow}, {put("t", api.Value{Kind: api.Int, Num: 1, Text: "1"}, null), api.ErrRow},
		{put("u", number(1), null), api.ErrRow}, {put("u", number(1), text("a")), api.ErrRow}, {put("shops", text("a"), truth(2), null, null), api.ErrRow}, {put("shops", text("a"), null, null, null), api.ErrRow}, {put("shops", text("a"), truth(1)), api.ErrRow},
		{del("t"), api.ErrRow}, {del("t", null), api.ErrRow}, {del("t", text("a")), api.ErrRow}, {del("t", number(1), text("a")), api.ErrRow}, {del("u", number(1)), api.ErrRow}, {del("u", row(1, 1, 1)...), api.ErrRow},
		{del("shops", text("a")), api.ErrRow}, {del("shops", truth(1), text("a")), api.ErrRow}, {del("shops", text("a"), null), api.ErrRow}, {del("shops", text("a"), truth(1), null, null), api.ErrRow}, {del("shops", long, truth(1)), api.ErrRow},
		{del("t", number(9)), api.ErrNone}, {del("u", row(1, 9)...), api.ErrNone}, {del("shops", text("A"), truth(1)), api.ErrNone}, {del("shops", text("a"), truth(0)), api.ErrNone},
	}
	for _, kind := range []int{0, -1, 3, math.MaxInt, math.MinInt} {
		for _, o := range []api.Op{put("t", number(1), text("a")), put("v"), put("t"), del("t", number(1)), del("t", number(9)), {}} {
			o.Kind = kind
			out = append(out, bad{o, api.ErrRange})
		}
	}
	return out
}

// filled: a store of two versions, with rows in all tables.
func filled(t *testing.T) *Store {
	t.Helper()
	s := made(t)
	done(t, s, put("t", number(1), text("a")), put("u", row(1, 1)...), put("shops", text("a"), truth(1), number(5), null))
	done(t, s, put("t", number(2), null), put("u", row(1, 2)...), put("t", number(1), text("b")))
	return s
}

// whole: all that a store tells, in texts that are the same just if it is.
func whole(t *testing.T, s *Store) []string {
	t.Helper()
	var out []string
	for v := s.Version(); ; v-- {
		p, e := s.At(v)
		if e != api.OK {
			return out
		}
		commits, _ := s.Since(v)
		out = append(out, told(p), toldCommits(commits))
	}
}

// refuses: a commit must be refused, and change nothing.
func refuses(t *testing.T, s *Store, want api.Errno, ops ...api.Op) {
	t.Helper()
	was := whole(t, s)
	c, e := s.Commit(ops)
	if e != want || c.Version != 0 || len(c.Changes) != 0 {
		t.Errorf("Commit of %v: %v, %d, want %d", ops, c, e, want)
	}
	if is := whole(t, s); !slices.Equal(is, was) {
		t.Errorf("Commit of %v, which is refused, makes %v of %v", ops, is, was)
	}
}

// right: n operations, each at a key of its own that no wrong one has.
func right(n int) []api.Op {
	var out []api.Op
	for k := range n {
		out = append(out, []api.Op{put("t", number(100+k), text("r")), put("u", row(k, 100)...), put("shops", text("z"+strings.Repeat("z", k)), truth(0), null, truth(1))}[k%3])
	}
	return out
}

// P9.1, P9.2: each wrong operation, alone, and at each place among right ones; behind it nothing matters.
func TestRefused(t *testing.T) {
	s := filled(t)
	for _, w := range wrong() {
		refuses(t, s, w.want, w.op)
		for n := range 5 {
			l := slices.Concat(right(n), []api.Op{w.op})
			refuses(t, s, w.want, l...)
			refuses(t, s, w.want, append(l, right(9)[n:]...)...)
		}
		full := append(right(api.MaxBatch-1), w.op)
		refuses(t, s, w.want, full...)
	}
	done(t, s, right(api.MaxBatch)...)
	if s.Version() != 3 {
		t.Errorf("version %d", s.Version())
	}
}

// P9.1: of two wrong operations the first counts.
func TestFirstRefused(t *testing.T) {
	s := filled(t)
	for _, a := range wrong() {
		for _, b := range wrong() {
			if c, e := s.Commit([]api.Op{right(1)[0], a.op, b.op}); e != a.want || c.Version != 0 {
				t.Errorf("Commit of %v, %v: %d, want %d", a.op, b.op, e, a.want)
			}
		}
	}
}

// P9.1: no operations, and too many, ahead of all that may be wrong with these.
func TestHowMany(t *testing.T) {
	s := filled(t)
	refuses(t, s, api.ErrRange)
	refuses(t, s, api.ErrRange, []api.Op{}...)
	for _, n := range []int{1, 2, 5, 100} {
		refuses(t, s, api.ErrFull, right(api.MaxBatch+n)...)
		refuses(t, s, api.ErrFull, make([]api.Op, api.MaxBatch+n)...)
	}
	for _, w := range wrong() {
		refuses(t, s, api.ErrFull, slices.Repeat([]api.Op{w.op}, api.MaxBatch+1)...)
	}
	for n := 1; n <= api.MaxBatch; n++ {
		s := filled(t)
		if c := done(t, s, right(n)...); c.Version != 3 || len(c.Changes) != n {
			t.Errorf("a commit of %d operations: %v", n, c)
		}
	}
}

// P9.1: two operations of one key in one table, of whatever kinds, far from each other, or near.
func TestSameKey(t *testing.T) {
	s := filled(t)
	for _, k := range [][]api.Op{
		{put("t", number(1), text("b")), put("t", number(1), null), del("t", number(1))},
		{put("t", number(-7), text("b")), put("t", number(-7), text("c"))},
		{put("u", row(1, 1)...), del("u", row(1, 1)...)},
		{put("u", row(4, 4)...)},
		{put("shops", text("a"), truth(1), number(5), null), put("shops", text("a"), truth(1), number(6), truth(0)), del("shops", text("a"), truth(1))},
	} {
		for _, a := range k {
			for _, b := range k {
				refuses(t, s, api.ErrKey, a, b)
				refuses(t, s, api.ErrKey, slices.Concat(right(4), []api.Op{a}, right(9)[4:], []api.Op{b})...)
				refuses(t, s, api.ErrNone, a, del("t", number(9)), b)
				refuses(t, s, api.ErrKey, a, b, del("t", number(9)))
			}
		}
	}
	// What isn't there when it is put isn't there for a Delete behind it: the key counts first.
	refuses(t, s, api.ErrKey, put("t", number(5), text("a")), del("t", number(5)))
	refuses(t, s, api.ErrRow, put("t", number(5), text("a")), put("t", number(5)))
	refuses(t, s, api.ErrRow, put("t", number(5), text("a")), del("t", number(5), text("a")))
	// Keys that are nearly the same, and the same one in two tables.
	done(t, s, put("u", row(5, 6)...), put("u", row(6, 5)...), put("u", row(5, 5)...), put("t", number(5), null), put("t", number(6), null))
	done(t, s, put("shops", text("b"), truth(0), null, null), put("shops", text("b"), truth(1), null, null), put("shops", text(""), truth(0), null, null))
}

// crowd fills the tables t and u with n rows each.
func crowd(t *testing.T, s *Store, n int) {
	t.Helper()
	for k := 0; k < n; k += 10 {
		var l []api.Op
		for i := k; i < min(k+10, n); i++ {
			l = append(l, put("t", number(i), null), put("u", row(i, i)...))
		}
		done(t, s, l...)
	}
}

// P9.1: a table of MaxRows rows, and one more; what a commit leads to counts, not what is on its way.
func TestFullTable(t *testing.T) {
	s := made(t)
	crowd(t, s, api.MaxRows-1)
	a, b, c := put("t", number(1000), null), put("t", number(1001), null), put("u", row(1000, 1000)...)
	refuses(t, s, api.ErrFull, a, b)
	refuses(t, s, api.ErrFull, a, c, b)
	refuses(t, s, api.ErrFull, b, c, put("u", row(1001, 1)...), a)
	done(t, s, a)
	refuses(t, s, api.ErrFull, b)
	refuses(t, s, api.ErrFull, b, c)
	refuses(t, s, api.ErrFull, c, put("shops", text("a"), truth(1), null, null), b)
	done(t, s, c)
	refuses(t, s, api.ErrFull, put("u", row(0, 1)...))
	if n, m := s.Now().Len("t"), s.Now().Len("u"); n != api.MaxRows || m != api.MaxRows {
		t.Errorf("%d rows and %d", n, m)
	}
	done(t, s, put("t", number(5), text("other")), put("u", row(5, 5)...), put("shops", text("a"), truth(1), null, null))
	done(t, s, b, del("t", number(0)))
	done(t, s, del("t", number(1)), put("t", number(1002), null))
	refuses(t, s, api.ErrFull, put("t", number(0), null), put("t", number(1), null), del("t", number(2)))
	refuses(t, s, api.ErrFull, del("u", row(7, 7)...), put("t", number(0), null))
	// What is wrong with an operation is looked for ahead of it.
	refuses(t, s, api.ErrNone, put("t", number(0), null), del("t", number(1)))
	refuses(t, s, api.ErrKey, put("t", number(0), null), put("t", number(0), null))
	refuses(t, s, api.ErrTable, put("t", number(0), null), put("v", number(0), null))
	refuses(t, s, api.ErrRange, put("t", number(0), null), api.Op{})
	// More than a batch's half on its way.
	var l []api.Op
	for k := range api.MaxBatch / 2 {
		l = append(l, put("t", number(2000+k), null))
	}
	for k := range api.MaxBatch / 2 {
		l = append(l, del("t", number(10+k)))
	}
	done(t, s, l...)
	if n := s.Now().Len("t"); n != api.MaxRows {
		t.Errorf("%d rows", n)
	}
}

// P9.1: each of as many tables as may be takes MaxRows rows, and no more, whatever the others have.
func TestEachFullTable(t *testing.T) {
	l := make([]api.Table, api.MaxTables)
	for n := range l {
		l[n] = catalog()[0]
		l[n].Name = strings.Repeat("t", n+1)
	}
	s, e := New(l)
	if e != api.OK {
		t.Fatalf("New: %d", e)
	}
	for _, x := range l {
		for k := 0; k < api.MaxRows; k += api.MaxBatch {
			var ops []api.Op
			for i := range api.MaxBatch {
				ops = append(ops, put(x.Name, number(k+i), null))
			}
			done(t, s, ops...)
		}
		if c, e := s.Commit([]api.Op{put(x.Name, number(-1), null)}); e != api.ErrFull || c.Version != 0 || s.Now().Len(x.Name) != api.MaxRows {
			t.Errorf("one row too many in %s: %v, %d", x.Name, c, e)
		}
	}
}

// Ways, layer 9: an operation's error is wrapped in its table's name, and its place.
func TestFaults(t *testing.T) {
	s := filled(t)
	for _, w := range wrong() {
		for n := range 4 {
			d := draft{Snapshot: s.last()}
			err := d.all(append(right(n), w.op))
			var f fault
			var r refusal
			if !errors.As(err, &f) || f.place != n || f.table != w.op.Table || !errors.As(err, &r) || api.Errno(r) != w.want || !errors.Is(err, f.why) {
				t.Errorf("%v at %d: %v", w.op, n, err)
			}
		}
	}
	for _, l := range [][]api.Op{nil, right(api.MaxBatch + 1)} {
		d := draft{Snapshot: s.last()}
		err := d.all(l)
		var f fault
		var r refusal
		if errors.As(err, &f) || !errors.As(err, &r) {
			t.Errorf("%d operations: %v", len(l), err)
		}
	}
	d := draft{Snapshot: s.last()}
	if err := d.all(right(5)); err != nil || d.Len("t") != s.Now().Len("t")+2 {
		t.Errorf("right ones: %v", err)
	}
	if got := (fault{"t", 3, refusal(api.ErrNone)}).Error(); got != "operation 3, table t: refused by error 22" {
		t.Errorf("Error: %q", got)
	}
}
