package norm

import (
	"cmp"
	"strings"

	"stillroom/api"
	"stillroom/value"
)

// Compare: by the order of predicates.
func Compare(a, b api.Pred) int {
	// Most of them differ here already, or have no Kids.
	if c := alone(a, b); c != 0 || len(a.Kids)+len(b.Kids) == 0 {
		return c
	}
	// What is left is kept in a list: calls within calls wouldn't do for Kids of any depth. Its end comes first.
	left := [][2][]api.Pred{{a.Kids, b.Kids}}
	for len(left) > 0 {
		last := len(left) - 1
		l, m := left[last][0], left[last][1]
		left = left[:last]
		if len(l) == 0 || len(m) == 0 {
			if c := cmp.Compare(len(l), len(m)); c != 0 {
				return c
			}
			continue
		}
		if c := alone(l[0], m[0]); c != 0 {
			return c
		}
		left = append(left, [2][]api.Pred{l[1:], m[1:]}, [2][]api.Pred{l[0].Kids, m[0].Kids})
	}
	return 0
}

// alone: likewise, but for Kids.
func alone(a, b api.Pred) int {
	return cmp.Or(
		cmp.Compare(a.Kind, b.Kind), strings.Compare(a.Column, b.Column), cmp.Compare(a.Rel, b.Rel),
		value.Compare(a.Value, b.Value), strings.Compare(a.Other, b.Other), value.Rows(a.List, b.List),
	)
}
