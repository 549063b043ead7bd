package schema

import (
	"errors"
	"strconv"

	"stillroom/api"
)

// Why a table is wrong.
var (
	errMany  = errors.New("one table too many")
	errWidth = errors.New("no column, or too many")
	errName  = errors.New("its name, or a column's, is none")
	errKind  = errors.New("a column of no kind")
	errKeys  = errors.New("a key of no column, or of more than there are")
	errNull  = errors.New("a column of the key may be null")
	errTable = errors.New("a table ahead has its name")
	errTwice = errors.New("two columns of one name")
)

// flaw: what is wrong with the table of this number, told by an error's number, and why.
type flaw struct {
	table  int
	number api.Errno
	why    error
}

func (f flaw) Error() string {
	return "table " + strconv.Itoa(f.table) + ": " + f.why.Error()
}

func (f flaw) Unwrap() error {
	return f.why
}

// review: the flaw of the first table that is wrong.
func review(l []api.Table) error {
	for n, t := range l {
		if err := full(n, t); err != nil {
			return flaw{n, api.ErrFull, err}
		}
		if err := malformed(t); err != nil {
			return flaw{n, api.ErrForm, err}
		}
		if err := twice(l[:n], t); err != nil {
			return flaw{n, api.ErrTwice, err}
		}
	}
	return nil
}

// full: as the table of a number, is it one too many, or hasn't it as many columns as may be?
func full(number int, t api.Table) error {
	switch {
	case number >= api.MaxTables:
		return errMany
	case len(t.Columns) == 0 || len(t.Columns) > api.MaxColumns:
		return errWidth
	}
	return nil
}

// malformed: what is wrong with its names, kinds and key.
func malformed(t api.Table) error {
	if !Name(t.Name) {
		return errName
	}
	if t.Keys < 1 || t.Keys > len(t.Columns) {
		return errKeys
	}
	for n, c := range t.Columns {
		switch {
		case !Name(c.Name):
			return errName
		case c.Kind != api.Bool && c.Kind != api.Int && c.Kind != api.Text:
			return errKind
		case n < t.Keys && c.Null:
			return errNull
		}
	}
	return nil
}

// twice: is its name one of those ahead, or that of two of its columns?
func twice(ahead []api.Table, t api.Table) error {
	if tableOf(ahead, t.Name) >= 0 {
		return errTable
	}
	for n, c := range t.Columns {
		if columnOf(t.Columns[:n], c.Name) >= 0 {
			return errTwice
		}
	}
	return nil
}
