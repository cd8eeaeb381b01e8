package nat

import "plumbline/api"

// splitFrom is the number of limbs from which three products of halves are
// faster than one product limb by limb.
const splitFrom = 48

// Mul returns a * b.
func Mul(a, b api.Nat) api.Nat {
	return product(trimmed(a), trimmed(b))
}

// lowest is the number that consists of the lowest n limbs of a, in a's memory.
func lowest(a api.Nat, n int) api.Nat {
	return trimmed(a[:n:n])
}

// product multiplies trimmed numbers.
func product(a, b api.Nat) api.Nat {
	if len(a) < len(b) {
		a, b = b, a
	}
	half := (len(a) + 1) / 2
	switch {
	case len(b) < splitFrom:
		return productByLimbs(a, b)
	case len(b) <= half:
		return productOfLong(a, b, half)
	}
	return productOfHalves(a, b, half)
}

func productByLimbs(a, b api.Nat) api.Nat {
	r := make(api.Nat, len(a)+len(b))
	for i, limb := range b {
		r[i+len(a)] = addProduct(r[i:i+len(a)], a, limb)
	}
	return trimmed(r)
}

// addProduct adds a * n to r, which is as long as a, and returns the limb that
// is carried beyond its end.
func addProduct(r, a api.Nat, n uint32) uint32 {
	var carry uint64
	for i, limb := range a {
		carry += uint64(limb)*uint64(n) + uint64(r[i])
		r[i] = uint32(carry)
		carry >>= limbBits
	}
	return uint32(carry)
}

// productOfLong halves only a: b is not longer than the half.
func productOfLong(a, b api.Nat, half int) api.Nat {
	r := make(api.Nat, len(a)+len(b))
	copy(r, product(lowest(a, half), b))
	increase(r[half:], product(a[half:], b))
	return trimmed(r)
}

// productOfHalves is Karatsuba's: with a = a1 * w + a0 and b = b1 * w + b0, the
// product is a1*b1 * w^2 + ((a1+a0)*(b1+b0) - a1*b1 - a0*b0) * w + a0*b0.
func productOfHalves(a, b api.Nat, half int) api.Nat {
	a0, a1 := lowest(a, half), a[half:]
	b0, b1 := lowest(b, half), b[half:]
	low, high := product(a0, b0), product(a1, b1)
	middle := product(Add(a0, a1), Add(b0, b1))
	decrease(middle, low)
	decrease(middle, high)

	r := make(api.Nat, len(a)+len(b))
	copy(r, low)
	copy(r[2*half:], high)
	increase(r[half:], trimmed(middle))
	return trimmed(r)
}
