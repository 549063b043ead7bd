package tree

import (
	"stillroom/api"
	"stillroom/value"
)

// walk answers what goes through a tree: of each call the next part of it, by the keys at their tops, of this key and those behind it; at last nil.
// No key is ahead of the empty one, so that one lets all come.
func walk(t *Tree, key api.Row) func() *Tree {
	// Those whose own keys, and what is on their right, are still to come.
	var path []*Tree
	down := func(t *Tree) {
		for Len(t) > 0 {
			if value.Rows(t.key, key) < 0 {
				t = t.right
				continue
			}
			path = append(path, t)
			t = t.left
		}
	}
	down(t)
	return func() *Tree {
		last := len(path) - 1
		if last < 0 {
			return nil
		}
		x := path[last]
		path = path[:last]
		down(x.right)
		return x
	}
}
