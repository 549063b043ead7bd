package exec

import (
	"errors"
	"strings"

	"stillroom/api"
	"stillroom/value"
)

// errWide: what may be wrong with what is told of a group.
var errWide = errors.New("a sum that isn't one of 64 bits")

// fault: the key of a group, and what is wrong with what is told of it.
type fault struct {
	key api.Row
	why error
}

func (f fault) Error() string {
	var l []string
	for _, v := range f.key {
		l = append(l, value.Text(v))
	}
	return "group (" + strings.Join(l, ", ") + "): " + f.why.Error()
}

func (f fault) Unwrap() error {
	return f.why
}
