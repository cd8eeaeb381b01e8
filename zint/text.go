package zint

import (
	"strings"

	"plumbline/api"
	"plumbline/nat"
)

// Parse returns the number with the given decimal digits, optionally with "-" in
// front.
func Parse(s string) (api.Int, api.Errno) {
	digits, neg := strings.CutPrefix(s, "-")
	abs, e := nat.Parse(digits)
	return signed(neg, abs), e
}

// Text returns the decimal digits of a, with "-" in front if a is negative.
func Text(a api.Int) string {
	digits := nat.Text(a.Abs)
	if Sign(a) < 0 {
		return "-" + digits
	}
	return digits
}
