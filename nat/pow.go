package nat

import (
	"math/bits"

	"plumbline/api"
)

// Pow returns a to the power n (0 to the power 0 is 1).
func Pow(a api.Nat, n int) (api.Nat, api.Errno) {
	if n < 0 {
		return nil, api.ErrArg
	}
	size := Bits(a)
	if size > 0 && n > api.MaxShift/size { // size * n may overflow
		return nil, api.ErrLong
	}
	r := Of(1)
	for i := bits.Len(uint(n)) - 1; i >= 0; i-- {
		r = Mul(r, r)
		if n>>i&1 == 1 {
			r = Mul(r, a)
		}
	}
	return r, api.OK
}

// Root returns the greatest number whose square is at most a.
func Root(a api.Nat) api.Nat {
	a = trimmed(a)
	if len(a) <= 2 {
		return Of(rootOfWord(word(a)))
	}
	// The root of a's upper half gives a first guess with half of the digits
	// right. It is too great; Newton's method then comes down to the root.
	half := Bits(a) / 4
	r := trimmed(shifted(Add(Root(Right(a, 2*half)), Of(1)), half))
	for {
		q, _ := divide(a, r)
		next := Right(Add(r, q), 1)
		if Cmp(next, r) >= 0 {
			return r
		}
		r = next
	}
}

func rootOfWord(n uint64) uint64 {
	var r uint64
	for i := range limbBits {
		if next := r | 1<<(limbBits-1-i); next*next <= n {
			r = next
		}
	}
	return r
}
