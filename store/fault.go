package store

import (
	"strconv"

	"stillroom/api"
)

// refusal: why a commit isn't taken, by the error's number.
type refusal api.Errno

func (r refusal) Error() string {
	return "refused by error " + strconv.Itoa(int(r))
}

// fault: an operation's error, wrapped in the name of its table, and in its place among the operations.
type fault struct {
	table string
	place int
	why   error
}

func (f fault) Error() string {
	return "operation " + strconv.Itoa(f.place) + ", table " + f.table + ": " + f.why.Error()
}

func (f fault) Unwrap() error {
	return f.why
}
