package parse

import (
	"slices"

	"stillroom/api"
)

// Same: the same trees?
func Same(a, b api.Query) bool {
	return a.All == b.All && a.Table == b.Table && a.Limit == b.Limit &&
		slices.EqualFunc(a.Items, b.Items, sameItem) &&
		slices.EqualFunc(a.Group, b.Group, sameItem) &&
		slices.EqualFunc(a.Order, b.Order, sameKey) &&
		SamePred(a.Where, b.Where)
}

// SamePred: the same predicates?
func SamePred(a, b api.Pred) bool {
	// What is left is kept in a list: calls within calls wouldn't do for Kids of any depth.
	left := [][2][]api.Pred{{{a}, {b}}}
	for len(left) > 0 {
		last := len(left) - 1
		l, m := left[last][0], left[last][1]
		left = left[:last]
		if !slices.EqualFunc(l, m, alike) {
			return false
		}
		for n := range l {
			left = append(left, [2][]api.Pred{l[n].Kids, m[n].Kids})
		}
	}
	return true
}

// alike: are two predicates the same, but for places and Kids?
func alike(a, b api.Pred) bool {
	return a.Kind == b.Kind && a.Column == b.Column && a.Rel == b.Rel && a.Value == b.Value &&
		a.Other == b.Other && slices.Equal(a.List, b.List)
}

// sameItem: are two items the same, but for places?
func sameItem(a, b api.Item) bool {
	return a.Agg == b.Agg && a.Column == b.Column
}

// sameKey: are two keys?
func sameKey(a, b api.Key) bool {
	return a.Desc == b.Desc && sameItem(a.Item, b.Item)
}
