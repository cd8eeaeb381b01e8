// Package nat is layer 1, natural numbers of arbitrary size: see shared/doc/01-nat.md.
package nat

import (
	"cmp"
	"math/bits"

	"plumbline/api"
)

const limbBits = 32

// trimmed is a without zero limbs at its end. It is still a's memory; its
// capacity ends with it, so that what is appended never reaches a's other limbs.
func trimmed(a api.Nat) api.Nat {
	for n := len(a); n > 0; n-- {
		if a[n-1] != 0 {
			return a[:n:n]
		}
	}
	return nil
}

// Trim returns a without zero limbs at the end.
func Trim(a api.Nat) api.Nat {
	a = trimmed(a)
	if len(a) == 0 {
		return nil
	}
	r := make(api.Nat, len(a))
	copy(r, a)
	return r
}

// Of returns n.
func Of(n uint64) api.Nat {
	return trimmed(api.Nat{uint32(n), uint32(n >> limbBits)})
}

// word is the value of a number of at most two limbs.
func word(a api.Nat) uint64 {
	var n uint64
	for i, limb := range a {
		n |= uint64(limb) << (i * limbBits)
	}
	return n
}

// Cmp returns -1, 0 or 1 if a is less than, equal to or greater than b.
func Cmp(a, b api.Nat) int {
	a, b = trimmed(a), trimmed(b)
	if len(a) != len(b) {
		return cmp.Compare(len(a), len(b))
	}
	for i := len(a) - 1; i >= 0; i-- {
		if a[i] != b[i] {
			return cmp.Compare(a[i], b[i])
		}
	}
	return 0
}

// Add returns a + b.
func Add(a, b api.Nat) api.Nat {
	a, b = trimmed(a), trimmed(b)
	if len(a) < len(b) {
		a, b = b, a
	}
	r := make(api.Nat, len(a)+1)
	copy(r, a)
	increase(r, b)
	return trimmed(r)
}

// Sub returns a - b and true, or nil and false if b is greater than a.
func Sub(a, b api.Nat) (api.Nat, bool) {
	if Cmp(a, b) < 0 {
		return nil, false
	}
	r := Trim(a)
	decrease(r, trimmed(b))
	return trimmed(r), true
}

// increase adds b to r, which is at least as long, and drops what is carried
// beyond r's end.
func increase(r, b api.Nat) {
	var carry uint32
	for i, limb := range b {
		r[i], carry = bits.Add32(r[i], limb, carry)
	}
	for i := len(b); carry != 0 && i < len(r); i++ {
		r[i], carry = bits.Add32(r[i], 0, carry)
	}
}

// decrease takes b, which must not be the greater one, away from r.
func decrease(r, b api.Nat) {
	var borrow uint32
	for i, limb := range b {
		r[i], borrow = bits.Sub32(r[i], limb, borrow)
	}
	for i := len(b); borrow != 0; i++ {
		r[i], borrow = bits.Sub32(r[i], 0, borrow)
	}
}
