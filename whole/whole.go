// Package whole is layer 1: whole numbers of any size.
package whole

import (
	"cmp"

	"elenchus/api"
)

// told makes a number of a size, which must be trimmed, and memory of its own.
func told(neg bool, size api.Nat) api.Int {
	if len(size) == 0 {
		return api.Int{}
	}
	return api.Int{Neg: neg, Abs: size}
}

// Of is a number of the language.
func Of(v int) api.Int {
	size := uint64(v)
	if v < 0 {
		// The least int has no counterpart among the ints, but one among the words.
		size = -size
	}
	return told(v < 0, ownWord(size))
}

// Norm is a number as it is told.
func Norm(a api.Int) api.Int {
	return told(a.Neg, own(a.Abs))
}

// Sign is -1, 0 or 1.
func Sign(a api.Int) int {
	switch {
	case len(trim(a.Abs)) == 0:
		return 0
	case a.Neg:
		return -1
	}
	return 1
}

// Cmp holds two numbers against each other.
func Cmp(a, b api.Int) int {
	side := Sign(a)
	if other := Sign(b); side != other {
		return cmp.Compare(side, other)
	}
	// Of two numbers below 0 the greater size is the lesser number.
	return side * compare(trim(a.Abs), trim(b.Abs))
}

// Neg is what a number lacks to 0.
func Neg(a api.Int) api.Int {
	return told(!a.Neg, own(a.Abs))
}

// Add is a sum.
func Add(a, b api.Int) api.Int {
	x, y := trim(a.Abs), trim(b.Abs)
	if a.Neg == b.Neg {
		return told(a.Neg, plus(x, y))
	}
	if compare(x, y) < 0 {
		return told(b.Neg, minus(y, x))
	}
	return told(a.Neg, minus(x, y))
}

// Sub is a difference.
func Sub(a, b api.Int) api.Int {
	return Add(a, api.Int{Neg: !b.Neg, Abs: b.Abs})
}

// Mul is a product.
func Mul(a, b api.Int) api.Int {
	return told(a.Neg != b.Neg, times(trim(a.Abs), trim(b.Abs)))
}

// Div is quotient and rest: the rest is not below 0, and less than the divisor's size.
func Div(a, b api.Int) (api.Int, api.Int, api.Errno) {
	x, y := trim(a.Abs), trim(b.Abs)
	if len(y) == 0 {
		return api.Int{}, api.Int{}, api.ErrZero
	}
	quotient, rest := divide(x, y)
	if a.Neg && len(rest) > 0 {
		// One divisor more is taken, so that the rest comes to be above 0.
		quotient = plus(quotient, api.Nat{1})
		rest = minus(y, rest)
	}
	return told(a.Neg != b.Neg, quotient), told(false, rest), api.OK
}

// Gcd is the greatest number that goes into both.
func Gcd(a, b api.Int) api.Int {
	return told(false, common(trim(a.Abs), trim(b.Abs)))
}
