package zint

import (
	"plumbline/api"
	"plumbline/nat"
)

// Div returns the quotient a / b, rounded down, and the remainder a - q * b,
// which is 0 or has the sign of b.
func Div(a, b api.Int) (q, r api.Int, e api.Errno) {
	quotient, rest, e := nat.Div(a.Abs, b.Abs)
	if e != api.OK {
		return api.Int{}, api.Int{}, e
	}
	q, r = signed(a.Neg != b.Neg, quotient), signed(a.Neg, rest)
	if len(rest) > 0 && a.Neg != b.Neg { // rounded towards 0 so far, which is up
		q, r = Sub(q, Of(1)), Add(r, b)
	}
	return q, r, api.OK
}

// Ceil returns a / b, rounded up.
func Ceil(a, b api.Int) (api.Int, api.Errno) {
	q, r, e := Div(a, b)
	if e == api.OK && Sign(r) != 0 {
		q = Add(q, Of(1))
	}
	return q, e
}

// Exact returns a / b if the remainder is 0.
func Exact(a, b api.Int) (api.Int, api.Errno) {
	q, r, e := Div(a, b)
	switch {
	case e != api.OK:
		return api.Int{}, e
	case Sign(r) != 0:
		return api.Int{}, api.ErrArg
	}
	return q, api.OK
}

// Hat returns the number that differs from a by a multiple of m, is at least
// -m/2, and is less than m/2.
func Hat(a, m api.Int) (api.Int, api.Errno) {
	if Sign(m) <= 0 {
		return api.Int{}, api.ErrArg
	}
	_, r, e := Div(a, m)
	if Cmp(Add(r, r), m) >= 0 {
		r = Sub(r, m)
	}
	return r, e
}

// Gcd returns the greatest common divisor, which is never negative.
func Gcd(a, b api.Int) api.Int {
	return signed(false, nat.Gcd(a.Abs, b.Abs))
}

// Lcm returns the least positive common multiple, or 0 if a or b is 0.
func Lcm(a, b api.Int) api.Int {
	if Sign(a) == 0 || Sign(b) == 0 {
		return api.Int{}
	}
	q, _, _ := nat.Div(a.Abs, nat.Gcd(a.Abs, b.Abs))
	return signed(false, nat.Mul(q, b.Abs))
}

// triple has a remainder r = |a| * x + |b| * y of the extended Euclidean algorithm.
type triple struct{ r, x, y api.Int }

// Bezout returns the greatest common divisor g and numbers x and y with
// a * x + b * y = g, as the extended Euclidean algorithm finds them.
func Bezout(a, b api.Int) (g, x, y api.Int) {
	last := triple{Abs(a), Of(1), Of(0)}
	next := triple{Abs(b), Of(0), Of(1)}
	for Sign(next.r) != 0 {
		q, rest, _ := Div(last.r, next.r)
		after := triple{rest, Sub(last.x, Mul(q, next.x)), Sub(last.y, Mul(q, next.y))}
		last, next = next, after
	}
	if Sign(a) < 0 {
		last.x = Neg(last.x)
	}
	if Sign(b) < 0 {
		last.y = Neg(last.y)
	}
	return last.r, last.x, last.y
}
