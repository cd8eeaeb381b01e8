package nat

import "plumbline/api"

// Decimal digits are converted in groups: the greatest power of 10 in a limb.
const (
	groupDigits = 9
	groupWeight = 1_000_000_000
)

// Parse returns the number with the given decimal digits; leading zeros are
// allowed.
func Parse(s string) (api.Nat, api.Errno) {
	switch {
	case len(s) > api.MaxDigits:
		return nil, api.ErrLong
	case !allDigits(s):
		return nil, api.ErrForm
	}
	r := make(api.Nat, len(s)/groupDigits+1)
	group, weight := uint32(0), uint32(1)
	for i := range len(s) {
		group, weight = group*10+uint32(s[i]-'0'), weight*10
		if weight == groupWeight || i == len(s)-1 {
			scale(r, weight, group)
			group, weight = 0, 1
		}
	}
	return trimmed(r), api.OK
}

// allDigits reports whether s consists of digits, at least one.
func allDigits(s string) bool {
	for i := range len(s) {
		if s[i] < '0' || s[i] > '9' {
			return false
		}
	}
	return s != ""
}

// scale replaces r by r * by + plus, for which r must have enough limbs.
func scale(r api.Nat, by, plus uint32) {
	carry := uint64(plus)
	for i, limb := range r {
		carry += uint64(limb) * uint64(by)
		r[i] = uint32(carry)
		carry >>= limbBits
	}
}

// Text returns the decimal digits of a without leading zeros ("0" for 0).
func Text(a api.Nat) string {
	rest := Trim(a)
	if len(rest) == 0 {
		return "0"
	}
	text := make([]byte, len(rest)*10+groupDigits) // a limb has fewer than 10 digits
	start := len(text)
	for len(rest) > 0 {
		group := divideBy(rest, groupWeight)
		rest = trimmed(rest)
		for range groupDigits {
			start--
			text[start] = byte('0' + group%10)
			group /= 10
		}
	}
	for text[start] == '0' {
		start++
	}
	return string(text[start:])
}
