// Package zint is layer 2, integers of arbitrary size: see shared/doc/02-zint.md.
package zint

import (
	"cmp"
	"math"

	"plumbline/api"
	"plumbline/nat"
)

// signed is abs or -abs, where abs is a result of layer 1 that nobody else has.
func signed(neg bool, abs api.Nat) api.Int {
	return api.Int{Neg: neg && len(abs) > 0, Abs: abs}
}

// Of returns n.
func Of(n int64) api.Int {
	if n < 0 {
		return signed(true, nat.Of(-uint64(n))) // right even for the least int64
	}
	return signed(false, nat.Of(uint64(n)))
}

// From returns a, or -a if neg is set.
func From(neg bool, a api.Nat) api.Int {
	return signed(neg, nat.Trim(a))
}

// Small returns a as an int64 and true, or 0 and false if it does not fit.
func Small(a api.Int) (int64, bool) {
	if nat.Bits(a.Abs) > 64 {
		return 0, false
	}
	var n uint64
	for i, limb := range nat.Trim(a.Abs) {
		n |= uint64(limb) << (32 * i)
	}
	switch {
	case n <= math.MaxInt64 && a.Neg:
		return -int64(n), true
	case n <= math.MaxInt64:
		return int64(n), true
	case n == -math.MinInt64 && a.Neg:
		return math.MinInt64, true
	}
	return 0, false
}

// Neg returns -a.
func Neg(a api.Int) api.Int {
	return From(!a.Neg, a.Abs)
}

// Abs returns the absolute value of a.
func Abs(a api.Int) api.Int {
	return From(false, a.Abs)
}

// Sign returns -1, 0 or 1 if a is negative, 0 or positive.
func Sign(a api.Int) int {
	switch {
	case nat.Bits(a.Abs) == 0:
		return 0
	case a.Neg:
		return -1
	}
	return 1
}

// Cmp returns -1, 0 or 1 if a is less than, equal to or greater than b.
func Cmp(a, b api.Int) int {
	sign := Sign(a)
	switch {
	case sign != Sign(b):
		return cmp.Compare(sign, Sign(b))
	case sign < 0:
		return nat.Cmp(b.Abs, a.Abs)
	}
	return nat.Cmp(a.Abs, b.Abs)
}

// Add returns a + b.
func Add(a, b api.Int) api.Int {
	if a.Neg == b.Neg {
		return signed(a.Neg, nat.Add(a.Abs, b.Abs))
	}
	if d, ok := nat.Sub(a.Abs, b.Abs); ok {
		return signed(a.Neg, d)
	}
	d, _ := nat.Sub(b.Abs, a.Abs)
	return signed(b.Neg, d)
}

// Sub returns a - b.
func Sub(a, b api.Int) api.Int {
	b.Neg = !b.Neg
	return Add(a, b)
}

// Mul returns a * b.
func Mul(a, b api.Int) api.Int {
	return signed(a.Neg != b.Neg, nat.Mul(a.Abs, b.Abs))
}

// Min returns the smaller number.
func Min(a, b api.Int) api.Int {
	if Cmp(a, b) > 0 {
		a = b
	}
	return From(a.Neg, a.Abs)
}

// Max returns the greater number.
func Max(a, b api.Int) api.Int {
	if Cmp(a, b) < 0 {
		a = b
	}
	return From(a.Neg, a.Abs)
}
