package schema

import (
	"errors"
	"math"
	"strings"
	"testing"

	"stillroom/api"
)

// tables: so many right ones, each with a name of its own.
func tables(n int) []api.Table {
	l := make([]api.Table, n)
	for at := range l {
		l[at] = items()
		l[at].Name = "t" + strings.Repeat("_", at)
	}
	return l
}

// columns: so many right ones, none null, each with a name of its own.
func columns(n int) []api.Column {
	l := make([]api.Column, n)
	for at := range l {
		l[at] = column("c"+strings.Repeat("x", at), api.Kind(at%3+1), false)
	}
	return l
}

func checks(t *testing.T, what string, l []api.Table, at int, want api.Errno) {
	t.Helper()
	if n, e := Check(l); n != at || e != want {
		t.Errorf("Check, %s: %d, %d, want %d, %d", what, n, e, at, want)
	}
}

// P6.1: Check, of catalogs.
func TestCheckRight(t *testing.T) {
	checks(t, "nil", nil, 0, api.OK)
	checks(t, "none", []api.Table{}, 0, api.OK)
	for n := range api.MaxTables + 1 {
		checks(t, "some tables", tables(n), 0, api.OK)
	}
	checks(t, "the example", []api.Table{small()}, 0, api.OK)
	checks(t, "columns of the same names", []api.Table{small(), items(), {Name: "other", Keys: 1, Columns: small().Columns}}, 0, api.OK)
	checks(t, "a column of a table's name", []api.Table{{Name: "a", Keys: 1, Columns: small().Columns}, {Name: "b", Keys: 1, Columns: small().Columns}}, 0, api.OK)
	long := strings.Repeat("z", api.MaxName)
	checks(t, "the longest names", []api.Table{{Name: long, Keys: 1, Columns: []api.Column{column(long, api.Bool, false)}}}, 0, api.OK)
	for n := 1; n <= api.MaxColumns; n++ {
		for keys := 1; keys <= n; keys++ {
			x := api.Table{Name: "t", Keys: keys, Columns: columns(n)}
			checks(t, "columns", []api.Table{x}, 0, api.OK)
			for at := keys; at < n; at++ {
				x.Columns[at].Null = true
			}
			checks(t, "columns that may be null", []api.Table{x}, 0, api.OK)
		}
	}
}

// spoil: a way to make a table wrong, and how it is told.
type spoil struct {
	what string
	want api.Errno
	do   func(t *api.Table)
}

// spoils: of tables of 2 to 8 columns, behind one of the name t.
func spoils() []spoil {
	l := []spoil{
		{"no column", api.ErrFull, func(t *api.Table) { t.Columns = nil }},
		{"an empty list", api.ErrFull, func(t *api.Table) { t.Columns = []api.Column{} }},
		{"9 columns", api.ErrFull, func(t *api.Table) { t.Columns = append(t.Columns, columns(9)[len(t.Columns):]...) }},
		{"100 columns", api.ErrFull, func(t *api.Table) { t.Columns = columns(100) }},
		{"a key's column null", api.ErrForm, func(t *api.Table) { t.Columns[0].Null = true }},
		{"the key's last column null", api.ErrForm, func(t *api.Table) { t.Keys, t.Columns[1].Null = 2, true }},
		{"all are the key, the last null", api.ErrForm, func(t *api.Table) { t.Keys, t.Columns[len(t.Columns)-1].Null = len(t.Columns), true }},
		{"one key too many", api.ErrForm, func(t *api.Table) { t.Keys = len(t.Columns) + 1 }},
		{"a table ahead", api.ErrTwice, func(t *api.Table) { t.Name = "t" }},
		{"two columns", api.ErrTwice, func(t *api.Table) { t.Columns[1].Name = t.Columns[0].Name }},
		{"the last column", api.ErrTwice, func(t *api.Table) { t.Columns[len(t.Columns)-1].Name = t.Columns[0].Name }},
		{"one more column", api.ErrTwice, func(t *api.Table) { t.Columns = append(t.Columns, t.Columns[len(t.Columns)-1]) }},
	}
	for _, keys := range []int{math.MinInt, -1, 0, api.MaxColumns + 1, math.MaxInt} {
		l = append(l, spoil{"another key", api.ErrForm, func(t *api.Table) { t.Keys = keys }})
	}
	for _, name := range []string{"", "A", "9", "_a", "a-b", "aB", "é", "a ", strings.Repeat("a", api.MaxName+1)} {
		l = append(l, spoil{"the name " + name, api.ErrForm, func(t *api.Table) { t.Name = name }})
		l = append(l, spoil{"a first column " + name, api.ErrForm, func(t *api.Table) { t.Columns[0].Name = name }})
		l = append(l, spoil{"a last column " + name, api.ErrForm, func(t *api.Table) { t.Columns[len(t.Columns)-1].Name = name }})
	}
	for _, k := range []api.Kind{api.Null, -1, 4, math.MaxInt, math.MinInt} {
		l = append(l, spoil{"a first column of no kind", api.ErrForm, func(t *api.Table) { t.Columns[0].Kind = k }})
		l = append(l, spoil{"a last column of no kind", api.ErrForm, func(t *api.Table) { t.Columns[len(t.Columns)-1].Kind = k }})
	}
	return l
}

// P6.1: Check, of each table that is wrong, at each place where it may stand; what is behind it doesn't matter.
func TestCheckWrong(t *testing.T) {
	for _, s := range spoils() {
		for at := range api.MaxTables {
			l := tables(api.MaxTables)
			s.do(&l[at])
			want := s.want
			if at == 0 && s.what == "a table ahead" { // It is this one's own name.
				want = api.OK
			}
			checks(t, s.what, l, at, want)
			if want != api.OK {
				checks(t, s.what+", the last", l[:at+1], at, want)
				checks(t, s.what+", and too many", append(l, l...), at, want)
			}
		}
	}
}

// P6.1: Check, of a table that is wrong in two ways: how many columns it has goes ahead of its form, and that of a name that is there.
func TestCheckOrder(t *testing.T) {
	for _, s := range spoils() {
		for _, wide := range [][]api.Column{nil, columns(api.MaxColumns + 1)} {
			l := tables(3)
			s.do(&l[2])
			l[2].Columns = wide
			checks(t, s.what+", and as many columns as may not be", l, 2, api.ErrFull)
		}
	}
	forms := []func(t *api.Table){
		func(t *api.Table) { t.Keys = 0 }, func(t *api.Table) { t.Keys = 6 }, func(t *api.Table) { t.Columns[0].Null = true },
		func(t *api.Table) { t.Columns[4].Kind = 0 }, func(t *api.Table) { t.Columns[2].Name = "" },
	}
	names := []func(t *api.Table){
		func(t *api.Table) { t.Name = "t" }, func(t *api.Table) { t.Columns[1].Name = "shop" }, func(t *api.Table) { t.Columns[4].Name = "no" },
	}
	for _, form := range forms {
		for _, name := range names {
			l := tables(3)
			form(&l[2])
			name(&l[2])
			checks(t, "a wrong form, and a name that is there", l, 2, api.ErrForm)
		}
	}
	l := tables(3)
	l[1].Name, l[2].Name = "T", "T"
	checks(t, "two names that are none", l, 1, api.ErrForm)
}

// P6.1: Check, of two tables that are wrong: the first counts, whatever is wrong with it.
func TestCheckFirst(t *testing.T) {
	for _, a := range spoils() {
		for _, b := range spoils() {
			l := tables(5)
			a.do(&l[2])
			b.do(&l[4])
			checks(t, a.what+", then "+b.what, l, 2, a.want)
		}
	}
}

// P6.1: Check, of too many tables: the number of the first that is too many.
func TestCheckMany(t *testing.T) {
	for n := api.MaxTables + 1; n < 4*api.MaxTables; n++ {
		checks(t, "too many", tables(n), 6, api.ErrFull)
	}
	for _, s := range spoils() {
		l := tables(api.MaxTables + 2)
		s.do(&l[6])
		checks(t, "one too many, and "+s.what, l, 6, api.ErrFull)
	}
	checks(t, "the seventh is the first again", append(tables(6), tables(1)...), 6, api.ErrFull)
}

// P6.1: Check, of names that are there, each pair of tables and of columns.
func TestCheckTwice(t *testing.T) {
	for b := range api.MaxTables {
		for a := range b {
			l := tables(api.MaxTables)
			l[b].Name = l[a].Name
			checks(t, "two tables", l, b, api.ErrTwice)
		}
	}
	for b := range api.MaxColumns {
		for a := range b {
			l := tables(2)
			l[1].Columns = columns(api.MaxColumns)
			l[1].Columns[b].Name = l[1].Columns[a].Name
			checks(t, "two columns", l, 1, api.ErrTwice)
		}
	}
}

// Ways, layer 6: what is wrong with a table is found by errors.As, at its number, and wraps why.
func TestFlaws(t *testing.T) {
	for _, c := range []struct {
		do     func(t *api.Table)
		number api.Errno
		why    error
	}{
		{func(t *api.Table) { t.Columns = nil }, api.ErrFull, errWidth},
		{func(t *api.Table) { t.Columns = columns(9) }, api.ErrFull, errWidth},
		{func(t *api.Table) { t.Name = "" }, api.ErrForm, errName},
		{func(t *api.Table) { t.Columns[1].Name = "B" }, api.ErrForm, errName},
		{func(t *api.Table) { t.Columns[1].Kind = 0 }, api.ErrForm, errKind},
		{func(t *api.Table) { t.Keys = 0 }, api.ErrForm, errKeys},
		{func(t *api.Table) { t.Keys = 6 }, api.ErrForm, errKeys},
		{func(t *api.Table) { t.Columns[0].Null = true }, api.ErrForm, errNull},
		{func(t *api.Table) { t.Name = "t" }, api.ErrTwice, errTable},
		{func(t *api.Table) { t.Columns[1].Name = "shop" }, api.ErrTwice, errTwice},
	} {
		l := tables(4)
		c.do(&l[2])
		var f flaw
		err := review(l)
		if !errors.As(err, &f) || f.table != 2 || f.number != c.number || !errors.Is(err, c.why) {
			t.Errorf("review: %v, want %v", err, c.why)
		}
	}
	var f flaw
	if err := review(tables(7)); !errors.As(err, &f) || f.table != 6 || !errors.Is(err, errMany) {
		t.Errorf("review of too many: %v", err)
	}
	if err := review(tables(6)); err != nil {
		t.Errorf("review of a catalog: %v", err)
	}
	if got := (flaw{3, api.ErrForm, errNull}).Error(); got != "table 3: a column of the key may be null" {
		t.Errorf("Error: %q", got)
	}
}
