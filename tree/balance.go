package tree

import "stillroom/value"

// put: with a pair, in the place of the one of its key.
func put(t *Tree, p pair) *Tree {
	if Len(t) == 0 {
		return top(nil, p, nil)
	}
	switch c := value.Rows(p.key, t.key); {
	case c < 0:
		return balanced(put(t.left, p), t.pair, t.right)
	case c > 0:
		return balanced(t.left, t.pair, put(t.right, p))
	}
	return top(t.left, p, t.right)
}

// beside: both sides of what was deleted, as one.
func beside(left, right *Tree) *Tree {
	if right == nil {
		return left
	}
	first := walk(right, nil)()
	return balanced(left, first.pair, Delete(right, first.key))
}

// top: a pair between its sides.
func top(left *Tree, p pair, right *Tree) *Tree {
	return &Tree{
		pair: p, left: left, right: right,
		height: max(Height(left), Height(right)) + 1,
		size:   Len(left) + 1 + Len(right),
	}
}

// balanced: likewise, in balance: the heights of no two sides differ by more than one.
// Of these two they may differ by two, as one of them had a key put in, or deleted.
func balanced(left *Tree, p pair, right *Tree) *Tree {
	switch Height(left) - Height(right) {
	case 2:
		return turnedRight(left, p, right)
	case -2:
		return turnedLeft(left, p, right)
	}
	return top(left, p, right)
}

// turnedRight: likewise, of a left side that is too high.
func turnedRight(left *Tree, p pair, right *Tree) *Tree {
	if Height(left.left) >= Height(left.right) {
		return top(left.left, left.pair, top(left.right, p, right))
	}
	inner := left.right
	return top(top(left.left, left.pair, inner.left), inner.pair, top(inner.right, p, right))
}

// turnedLeft: likewise, of a right side that is too high.
func turnedLeft(left *Tree, p pair, right *Tree) *Tree {
	if Height(right.right) >= Height(right.left) {
		return top(top(left, p, right.left), right.pair, right.right)
	}
	inner := right.left
	return top(top(left, p, inner.left), inner.pair, top(inner.right, right.pair, right.right))
}
