package tally

import "errors"

// errWide: what is wrong with a sum.
var errWide = errors.New("not a sum of 64 bits")

// excess: the text of a sum, and what is wrong with it.
type excess struct {
	text string
	why  error
}

func (e excess) Error() string {
	return e.text + ": " + e.why.Error()
}

func (e excess) Unwrap() error {
	return e.why
}
