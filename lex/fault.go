package lex

import (
	"errors"
	"strconv"

	"stillroom/api"
)

// What may be wrong with a text.
var (
	errNone  = errors.New("no token")
	errGreat = errors.New("a value that is too great, or too long")
	errMany  = errors.New("one token too many")
	errLong  = errors.New("a text that is too long")
)

// fault: the place of what is wrong, and why.
type fault struct {
	at  int
	why error
}

// Error: the fault in words.
func (f fault) Error() string {
	return "byte " + strconv.Itoa(f.at) + ": " + f.why.Error()
}

// Unwrap: why.
func (f fault) Unwrap() error {
	return f.why
}

// number: the error's.
func (f fault) number() api.Errno {
	switch {
	case errors.Is(f, errGreat):
		return api.ErrRange
	case errors.Is(f, errMany):
		return api.ErrFull
	case errors.Is(f, errLong):
		return api.ErrLong
	}
	return api.ErrLex
}
