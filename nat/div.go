package nat

import (
	"math/bits"

	"plumbline/api"
)

// Div returns the quotient and the remainder of a and b.
func Div(a, b api.Nat) (q, r api.Nat, e api.Errno) {
	a, b = trimmed(a), trimmed(b)
	if len(b) == 0 {
		return nil, nil, api.ErrZero
	}
	q, r = divide(a, b)
	return q, r, api.OK
}

// divide divides trimmed numbers; b is not 0.
func divide(a, b api.Nat) (q, r api.Nat) {
	switch {
	case len(a) < len(b):
		return nil, Trim(a)
	case len(a) <= 2:
		x, y := word(a), word(b)
		return Of(x / y), Of(x % y)
	case len(b) == 1:
		q = Trim(a)
		rest := divideBy(q, b[0])
		return trimmed(q), Of(uint64(rest))
	}
	return divideLong(a, b)
}

// divideBy replaces a by its quotient by n, and returns the remainder.
func divideBy(a api.Nat, n uint32) uint32 {
	var rest uint64
	for i := len(a) - 1; i >= 0; i-- {
		rest = rest<<limbBits | uint64(a[i])
		a[i] = uint32(rest / uint64(n))
		rest %= uint64(n)
	}
	return uint32(rest)
}

// divideLong is long division by a number of at least two limbs. Both numbers
// are first shifted until b's highest bit is set: only then the guesses in
// takeAway are nearly right.
func divideLong(a, b api.Nat) (q, r api.Nat) {
	shift := bits.LeadingZeros32(b[len(b)-1])
	rest := shifted(a, shift)
	b = trimmed(shifted(b, shift))
	q = make(api.Nat, len(a)-len(b)+1)
	for i := len(q) - 1; i >= 0; i-- {
		q[i] = takeAway(rest[i:i+len(b)+1], b)
	}
	return trimmed(q), Right(rest, shift)
}

// takeAway takes b away from r as often as possible, and returns how often: less
// than 2^32 times. r is one limb longer than b.
func takeAway(r, b api.Nat) uint32 {
	n := len(b)
	guess := guessTimes(r[n-2:], b[n-2:])
	times := uint32(guess)
	over := subProduct(r[:n], b, times)
	if r[n] < over { // one too many
		times--
		increase(r[:n], b)
	}
	r[n] = 0
	return times
}

// guessTimes divides the highest three limbs of r by the highest two of b. The
// result is the true number of times or 1 more.
func guessTimes(r, b api.Nat) uint64 {
	top := uint64(r[2])<<limbBits | uint64(r[1])
	guess, rest := top/uint64(b[1]), top%uint64(b[1])
	for guess>>limbBits != 0 || guess*uint64(b[0]) > rest<<limbBits|uint64(r[0]) {
		guess--
		rest += uint64(b[1])
		if rest>>limbBits != 0 {
			break
		}
	}
	return guess
}

// subProduct takes b * n away from r, which is as long as b, and returns what is
// to be taken away from the limb that follows.
func subProduct(r, b api.Nat, n uint32) uint32 {
	var carry uint64
	for i, limb := range b {
		carry += uint64(limb) * uint64(n)
		low := uint32(carry)
		carry >>= limbBits
		if r[i] < low {
			carry++
		}
		r[i] -= low
	}
	return uint32(carry)
}

// Gcd returns the greatest common divisor; that of 0 and b is b.
func Gcd(a, b api.Nat) api.Nat {
	a, b = trimmed(a), trimmed(b)
	for len(a) > 2 && len(b) > 0 || len(b) > 2 {
		_, r := divide(a, b)
		a, b = b, r
	}
	if len(b) == 0 {
		return Trim(a)
	}
	x, y := word(a), word(b)
	for y != 0 {
		x, y = y, x%y
	}
	return Of(x)
}
