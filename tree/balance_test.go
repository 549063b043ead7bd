package tree

import (
	"math/bits"
	"slices"
	"testing"

	"stillroom/api"
	"stillroom/value"
)

// sound: are its height, its length and the order of its keys what they say, in all of it, its height within the bound, and its sides in balance?
func sound(t *testing.T, x *Tree) {
	t.Helper()
	var keys []api.Row
	var look func(x *Tree) (height, size int)
	look = func(x *Tree) (height, size int) {
		if x == nil {
			return 0, 0
		}
		left, under := look(x.left)
		keys = append(keys, x.key)
		right, over := look(x.right)
		height, size = max(left, right)+1, under+1+over
		if height != Height(x) || size != Len(x) {
			t.Fatalf("height %d and %d keys, it tells %d and %d", height, size, Height(x), Len(x))
		}
		if bound(size) < height {
			t.Fatalf("height %d of %d keys", height, size)
		}
		if left-right > 1 || right-left > 1 {
			t.Fatalf("sides of heights %d and %d: the bound rests on their differing by one at most", left, right)
		}
		return height, size
	}
	look(x)
	for n := range keys {
		if n > 0 && value.Rows(keys[n-1], keys[n]) != -1 {
			t.Fatalf("key %v ahead of %v", keys[n-1], keys[n])
		}
	}
}

// bound: the greatest height that so many keys may have.
func bound(n int) int { return bits.Len(uint(n)+1) * 3 / 2 }

// hasKeys: does a tree of keys of one int, each its own row, have just these?
func hasKeys(t *testing.T, x *Tree, keys []int) {
	t.Helper()
	sound(t, x)
	if l := slices.Sorted(slices.Values(keys)); !sameRows(Rows(x), rowsOf(l...)) {
		t.Fatalf("rows %v, want %v", Rows(x), l)
	}
}

// each: all orders of 0 to n - 1.
func each(n int, do func(l []int)) {
	l := make([]int, n)
	for at := range l {
		l[at] = at
	}
	var swap func(at int)
	swap = func(at int) {
		if at == n {
			do(l)
			return
		}
		for other := at; other < n; other++ {
			l[at], l[other] = l[other], l[at]
			swap(at + 1)
			l[at], l[other] = l[other], l[at]
		}
	}
	swap(0)
}

// P7.1, P7.2: keys in all orders, and of each tree each one deleted, and each two.
func TestOrders(t *testing.T) {
	for n := range 8 {
		each(n, func(l []int) {
			var x *Tree
			for at, k := range l {
				x = Put(x, row(k), row(k))
				hasKeys(t, x, l[:at+1])
			}
			if n > 6 && l[0]%2 == 0 {
				return
			}
			for at := range l {
				y := Delete(x, row(l[at]))
				left := slices.Delete(slices.Clone(l), at, at+1)
				hasKeys(t, y, left)
				for k := range left {
					hasKeys(t, Delete(y, row(left[k])), slices.Delete(slices.Clone(left), k, k+1))
				}
			}
			hasKeys(t, x, l)
		})
	}
}

// P7.1: the height of many keys that come, and go, in orders that lean to a side.
func TestHeight(t *testing.T) {
	const n = 600
	orders := map[string]func(at int) int{
		"rising":     func(at int) int { return at },
		"falling":    func(at int) int { return n - 1 - at },
		"from sides": func(at int) int { return []int{at / 2, n - 1 - at/2}[at%2] },
		"to sides":   func(at int) int { return n/2 + []int{at / 2, -1 - at/2}[at%2] },
		"by pairs":   func(at int) int { return at ^ 1 },
		"by eights":  func(at int) int { return at ^ 7 },
		"scattered":  func(at int) int { return at * 271 % n },
		"by steps":   func(at int) int { return at * 7 % n },
	}
	full := map[string]*Tree{}
	for name, order := range orders {
		var x *Tree
		for at := range n {
			x = Put(x, row(order(at)), row(order(at)))
			if Len(x) != at+1 || Height(x) > bound(at+1) {
				t.Fatalf("%s: %d keys of %d, height %d", name, Len(x), at+1, Height(x))
			}
		}
		if sound(t, x); !sameRows(Rows(x), From(x, row(0), n)) || len(Rows(x)) != n {
			t.Fatalf("%s: rows %v", name, Rows(x))
		}
		full[name] = x
	}
	for name, x := range full {
		for other, order := range orders {
			y := x
			for at := range n {
				y = Delete(y, row(order(at)))
				if Len(y) != n-1-at || Height(y) > bound(n-1-at) {
					t.Fatalf("%s, gone %s: %d keys of %d, height %d", name, other, Len(y), n-1-at, Height(y))
				}
				if at%97 == 0 {
					sound(t, y)
				}
			}
		}
	}
}

// fullTree: a tree of the keys 1 to 2^high - 1, put in so that nothing has to be turned: each level at once.
func fullTree(high int) *Tree {
	var x *Tree
	for step := 1 << (high - 1); step > 0; step /= 2 {
		for k := step; k < 1<<high; k += 2 * step {
			x = Put(x, row(k), row(k))
		}
	}
	return x
}

// P7.1: the height of what is left, if all but the keys on one way from the top go, from either end on.
func TestHeightThin(t *testing.T) {
	const high, n = 8, 1<<8 - 1
	x := fullTree(high)
	for end := 1; end <= n; end += 2 {
		var way []int
		for at, step := 1<<(high-1), 1<<(high-2); at != end; step /= 2 {
			way = append(way, at)
			if end < at {
				at -= step
			} else {
				at += step
			}
		}
		way = append(way, end)
		rising, falling := x, x
		for k := 1; k <= n; k++ {
			if !slices.Contains(way, k) {
				rising = Delete(rising, row(k))
			}
			if !slices.Contains(way, n+1-k) {
				falling = Delete(falling, row(n+1-k))
			}
			if Height(rising) > bound(Len(rising)) || Height(falling) > bound(Len(falling)) {
				t.Fatalf("on the way to %d: %d and %d keys, heights %d and %d", end, Len(rising), Len(falling), Height(rising), Height(falling))
			}
		}
		hasKeys(t, rising, way)
		hasKeys(t, falling, way)
	}
}

// P7.1: the height is that of the longest way, of trees that are full, and of those with one key more.
func TestHeightFull(t *testing.T) {
	for high := 1; high < 9; high++ {
		x := fullTree(high)
		if Len(x) != 1<<high-1 || Height(x) != high {
			t.Errorf("%d keys, height %d, want %d", Len(x), Height(x), high)
		}
		if y := Put(x, row(0), row(0)); Height(y) != high+1 {
			t.Errorf("%d keys, height %d, want %d", Len(y), Height(y), high+1)
		}
	}
}

// P7.1: keys that come and go by a rule, as a list of them does.
func TestComeAndGo(t *testing.T) {
	var keys []int
	var x *Tree
	k := 1
	for n := range 6000 {
		k = k * 75 % 65537
		key := k % 150
		at := slices.Index(keys, key)
		switch {
		case at < 0 && (n/500%2 == 0 || k%3 == 0):
			keys, x = append(keys, key), Put(x, row(key), row(key))
		case at >= 0 && (n/500%2 == 1 || k%3 == 0):
			keys, x = slices.Delete(keys, at, at+1), Delete(x, row(key))
		}
		if n%10 == 0 || len(keys) < 5 {
			hasKeys(t, x, keys)
		}
	}
}
