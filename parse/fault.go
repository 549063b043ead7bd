package parse

import (
	"strconv"

	"stillroom/api"
)

// refusal: why a text isn't a query's, by the error's number.
type refusal api.Errno

func (r refusal) Error() string {
	return "refused by error " + strconv.Itoa(int(r))
}

// fault: the place of the token at which an error stays, and why.
type fault struct {
	place int
	why   error
}

func (f fault) Error() string {
	return "byte " + strconv.Itoa(f.place) + ": " + f.why.Error()
}

func (f fault) Unwrap() error {
	return f.why
}
