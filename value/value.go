// Package value is layer 1: values, their order, and reckoning that tells when it is too much: see shared/doc/01-value.md.
package value

import (
	"cmp"
	"slices"
	"strings"

	"stillroom/api"
)

// Good: is it one?
func Good(v api.Value) bool {
	switch v.Kind {
	case api.Null:
		return v.Num == 0 && v.Text == ""
	case api.Bool:
		return (v.Num == 0 || v.Num == 1) && v.Text == ""
	case api.Int:
		return v.Text == ""
	case api.Text:
		return v.Num == 0 && len(v.Text) <= api.MaxText
	}
	return false
}

// Compare: by the order.
func Compare(a, b api.Value) int {
	// This is enough, as kinds are numbered in the order of their values, and
	// what a good value's kind doesn't use is the same in all of that kind.
	return cmp.Or(cmp.Compare(a.Kind, b.Kind), cmp.Compare(a.Num, b.Num), strings.Compare(a.Text, b.Text))
}

// Rows: of rows.
func Rows(a, b api.Row) int {
	return slices.CompareFunc(a, b, Compare)
}

// Same: the same values?
func Same(a, b api.Row) bool {
	return slices.Equal(a, b)
}

// Add: a sum.
func Add(a, b api.Value) (api.Value, api.Errno) {
	return reckon(a, b, plus)
}

// Sub: a difference.
func Sub(a, b api.Value) (api.Value, api.Errno) {
	return reckon(a, b, minus)
}

// Mul: a product.
func Mul(a, b api.Value) (api.Value, api.Errno) {
	return reckon(a, b, times)
}

// Neg: the other sign.
func Neg(a api.Value) (api.Value, api.Errno) {
	return reckon(number(0), a, minus)
}

// reckon does what all reckoning has in common; do answers false, if what comes of it is too much.
func reckon(a, b api.Value, do func(x, y int) (int, bool)) (api.Value, api.Errno) {
	if !reckoned(a.Kind) || !reckoned(b.Kind) {
		return api.Value{}, api.ErrRange
	}
	if a.Kind == api.Null || b.Kind == api.Null {
		return api.Value{}, api.OK
	}
	n, fits := do(a.Num, b.Num)
	if !fits {
		return api.Value{}, api.ErrOver
	}
	return number(n), api.OK
}

// reckoned: may values of a kind be reckoned with?
func reckoned(k api.Kind) bool {
	return k == api.Null || k == api.Int
}

func number(n int) api.Value {
	return api.Value{Kind: api.Int, Num: n}
}

func plus(x, y int) (int, bool) {
	n := x + y
	// It went round just if both have one sign, and the sum the other one.
	return n, (x^n)&(y^n) >= 0
}

func minus(x, y int) (int, bool) {
	n := x - y
	// It went round just if the signs differ, and the difference hasn't x's.
	return n, (x^y)&(x^n) >= 0
}

func times(x, y int) (int, bool) {
	// Going back by division finds each product that went round, but by -1,
	// as that division goes round too.
	switch y {
	case 0:
		return 0, true
	case -1:
		return minus(0, x)
	}
	n := x * y
	return n, n/y == x
}
