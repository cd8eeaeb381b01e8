package nat

import (
	"math/bits"

	"plumbline/api"
)

// Left returns a * 2^n.
func Left(a api.Nat, n int) (api.Nat, api.Errno) {
	switch {
	case n < 0:
		return nil, api.ErrArg
	case n > api.MaxShift:
		return nil, api.ErrLong
	}
	return trimmed(shifted(trimmed(a), n)), api.OK
}

// shifted is a * 2^n, with as many limbs as this can need: the highest may be 0.
func shifted(a api.Nat, n int) api.Nat {
	limbs, rest := n/limbBits, n%limbBits
	r := make(api.Nat, len(a)+limbs+1)
	copy(r[limbs:], a)
	for i := len(r) - 1; i > limbs; i-- {
		r[i] = r[i]<<rest | r[i-1]>>(limbBits-rest)
	}
	r[limbs] <<= rest
	return r
}

// Right returns a / 2^n, rounded down; a negative n counts as 0.
func Right(a api.Nat, n int) api.Nat {
	a, n = trimmed(a), max(n, 0)
	limbs, rest := n/limbBits, n%limbBits
	if limbs >= len(a) {
		return nil
	}
	r := make(api.Nat, len(a)-limbs)
	copy(r, a[limbs:])
	last := len(r) - 1
	for i := range last {
		r[i] = r[i]>>rest | r[i+1]<<(limbBits-rest)
	}
	r[last] >>= rest
	return trimmed(r)
}

// Bits returns the number of bits of a up to its highest 1 (0 for 0).
func Bits(a api.Nat) int {
	a = trimmed(a)
	if len(a) == 0 {
		return 0
	}
	last := len(a) - 1
	return last*limbBits + bits.Len32(a[last])
}

// Bit reports whether bit i of a is 1; there is none at a negative i.
func Bit(a api.Nat, i int) bool {
	return i >= 0 && i/limbBits < len(a) && a[i/limbBits]>>(i%limbBits)&1 == 1
}
