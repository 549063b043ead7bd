package check

import (
	"errors"
	"strconv"

	"stillroom/api"
)

// What may be wrong with a query.
var (
	errTable  = errors.New("no such table")
	errColumn = errors.New("no such column")
	errType   = errors.New("types that clash")
	errTwice  = errors.New("grouped by a column twice")
	errGroup  = errors.New("neither grouped nor an aggregate")
)

// fault: the place of what is wrong, and why.
type fault struct {
	place int
	why   error
}

func (f fault) Error() string {
	return "byte " + strconv.Itoa(f.place) + ": " + f.why.Error()
}

func (f fault) Unwrap() error {
	return f.why
}

// number: the error's.
func (f fault) number() api.Errno {
	switch {
	case errors.Is(f, errTable):
		return api.ErrTable
	case errors.Is(f, errColumn):
		return api.ErrColumn
	case errors.Is(f, errType):
		return api.ErrType
	case errors.Is(f, errTwice):
		return api.ErrTwice
	}
	return api.ErrGroup
}
