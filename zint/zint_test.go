package zint_test

import (
	"math"
	"math/big"
	"strings"
	"testing"

	"plumbline/api"
	"plumbline/zint"
)

func TestP2_1OfFromSmall(t *testing.T) {
	for _, n := range []int64{0, 1, -1, 7, top, -top, 1 << 32, -1 << 32, math.MaxInt64, -math.MaxInt64, math.MinInt64} {
		a := zint.Of(n)
		expect(t, "Of", a, big.NewInt(n))
		if m, ok := zint.Small(a); !ok || m != n {
			t.Errorf("Small(Of(%d)) = %d, %v", n, m, ok)
		}
	}
	for _, a := range samples() {
		expect(t, "From", zint.From(a.Neg, a.Abs), wide(a))
		n, ok := zint.Small(a)
		if want := wide(a); ok != want.IsInt64() || ok && n != want.Int64() || !ok && n != 0 {
			t.Errorf("Small(%v) = %d, %v", want, n, ok)
		}
	}
}

func TestP2_1NegAbsSign(t *testing.T) {
	for _, a := range samples() {
		expect(t, "Neg", zint.Neg(a), new(big.Int).Neg(wide(a)))
		expect(t, "Abs", zint.Abs(a), new(big.Int).Abs(wide(a)))
		if got, want := zint.Sign(a), wide(a).Sign(); got != want {
			t.Errorf("Sign(%v) = %d", a, got)
		}
	}
}

func TestP2_1AddSubMulMinMaxCmp(t *testing.T) {
	for _, p := range pairs() {
		a, b := p[0], p[1]
		x, y := wide(a), wide(b)
		expect(t, "Add", zint.Add(a, b), new(big.Int).Add(x, y))
		expect(t, "Sub", zint.Sub(a, b), new(big.Int).Sub(x, y))
		expect(t, "Mul", zint.Mul(a, b), new(big.Int).Mul(x, y))
		less, more := x, y
		if x.Cmp(y) > 0 {
			less, more = y, x
		}
		expect(t, "Min", zint.Min(a, b), less)
		expect(t, "Max", zint.Max(a, b), more)
		if got, want := zint.Cmp(a, b), x.Cmp(y); got != want {
			t.Errorf("Cmp(%v, %v) = %d", x, y, got)
		}
	}
}

// floor is x / y rounded down, and what remains.
func floor(x, y *big.Int) (q, r *big.Int) {
	q, r = new(big.Int).QuoRem(x, y, new(big.Int))
	if r.Sign() != 0 && r.Sign() != y.Sign() {
		q.Sub(q, big.NewInt(1))
		r.Add(r, y)
	}
	return q, r
}

func TestP2_1DivCeilExact(t *testing.T) {
	for _, p := range pairs() {
		a, b := p[0], p[1]
		if wide(b).Sign() == 0 {
			continue
		}
		want, rest := floor(wide(a), wide(b))
		q, r, e := zint.Div(a, b)
		c, f := zint.Ceil(a, b)
		x, g := zint.Exact(a, b)
		if e != api.OK || f != api.OK {
			t.Errorf("Div, Ceil of %v and %v: errors %d, %d", a, b, e, f)
		}
		expect(t, "Div", q, want)
		expect(t, "Div's remainder", r, rest)
		if rest.Sign() == 0 {
			expect(t, "Ceil", c, want)
			expect(t, "Exact", x, want)
		} else {
			expect(t, "Ceil", c, new(big.Int).Add(want, big.NewInt(1)))
		}
		if exact := rest.Sign() == 0; exact && g != api.OK || !exact && (g != api.ErrArg || !isZero(x)) {
			t.Errorf("Exact(%v, %v) = %v, %d", a, b, x, g)
		}
	}
}

func TestP2_1DivisionByZero(t *testing.T) {
	for _, a := range samples() {
		for _, b := range []api.Int{{}, {Neg: true}, {Abs: api.Nat{0, 0}}, {Neg: true, Abs: api.Nat{0}}} {
			q, r, e := zint.Div(a, b)
			c, f := zint.Ceil(a, b)
			x, g := zint.Exact(a, b)
			if e != api.ErrZero || f != api.ErrZero || g != api.ErrZero {
				t.Errorf("%v / 0: errors %d, %d, %d", a, e, f, g)
			}
			if !isZero(q) || !isZero(r) || !isZero(c) || !isZero(x) {
				t.Errorf("%v / 0: results beside the error", a)
			}
		}
	}
}

func TestP2_1Hat(t *testing.T) {
	for _, p := range pairs() {
		a, m := p[0], p[1]
		h, e := zint.Hat(a, m)
		if wide(m).Sign() <= 0 {
			if e != api.ErrArg || !isZero(h) {
				t.Errorf("Hat(%v, %v) = %v, %d", a, m, h, e)
			}
			continue
		}
		// a - m * floor(a / m + 1/2), with both sides of the division doubled
		double := new(big.Int).Lsh(wide(a), 1)
		q, _ := floor(double.Add(double, wide(m)), new(big.Int).Lsh(wide(m), 1))
		want := new(big.Int).Sub(wide(a), q.Mul(q, wide(m)))
		if e != api.OK {
			t.Errorf("Hat(%v, %v): error %d", a, m, e)
		}
		expect(t, "Hat", h, want)
		twice := zint.Add(h, h)
		if zint.Cmp(twice, zint.Neg(m)) < 0 || zint.Cmp(twice, m) >= 0 {
			t.Errorf("Hat(%v, %v) = %v is not around 0", a, m, h)
		}
	}
}

func TestP2_1GcdLcm(t *testing.T) {
	for _, p := range pairs() {
		a, b := p[0], p[1]
		x, y := new(big.Int).Abs(wide(a)), new(big.Int).Abs(wide(b))
		g := new(big.Int).GCD(nil, nil, x, y)
		expect(t, "Gcd", zint.Gcd(a, b), g)
		least := new(big.Int)
		if x.Sign() != 0 && y.Sign() != 0 {
			least.Mul(least.Div(x, g), y)
		}
		expect(t, "Lcm", zint.Lcm(a, b), least)
	}
}

func TestP2_1Parse(t *testing.T) {
	nines := strings.Repeat("9", api.MaxDigits)
	for _, s := range []string{"0", "-0", "-00", "00", "7", "-7", "-007", "-4294967296", nines, "-" + nines, "18446744073709551616"} {
		want, _ := new(big.Int).SetString(s, 10)
		a, e := zint.Parse(s)
		if e != api.OK {
			t.Errorf("Parse(%.20q): error %d", s, e)
		}
		expect(t, "Parse", a, want)
	}
	for _, x := range []struct {
		s string
		e api.Errno
	}{
		{"", api.ErrForm}, {"-", api.ErrForm}, {"--1", api.ErrForm}, {"+1", api.ErrForm}, {"1-", api.ErrForm},
		{" -1", api.ErrForm}, {"- 1", api.ErrForm}, {"-x", api.ErrForm}, {"\u22121", api.ErrForm},
		{nines + "9", api.ErrLong}, {"-" + nines + "9", api.ErrLong}, {"-" + strings.Repeat("x", 4001), api.ErrLong},
		{"-" + strings.Repeat("x", 4000), api.ErrForm}, {strings.Repeat("-", 4001), api.ErrForm},
		{strings.Repeat("-", 4002), api.ErrLong},
	} {
		if a, e := zint.Parse(x.s); e != x.e || !isZero(a) {
			t.Errorf("Parse(%.20q) = %v, %d, want error %d", x.s, a, e, x.e)
		}
	}
}

func TestP2_1Text(t *testing.T) {
	for _, a := range samples() {
		if got, want := zint.Text(a), wide(a).String(); got != want {
			t.Errorf("Text(%v) = %s, want %s", a, got, want)
		}
	}
}

func TestP2_1Examples(t *testing.T) {
	q, r, _ := zint.Div(zint.Of(-7), zint.Of(2))
	expect(t, "-7 / 2", q, big.NewInt(-4))
	expect(t, "rest of -7 / 2", r, big.NewInt(1))
	q, r, _ = zint.Div(zint.Of(-7), zint.Of(-2))
	expect(t, "-7 / -2", q, big.NewInt(3))
	expect(t, "rest of -7 / -2", r, big.NewInt(-1))
	c, _ := zint.Ceil(zint.Of(-7), zint.Of(2))
	expect(t, "Ceil(-7, 2)", c, big.NewInt(-3))
	h, _ := zint.Hat(zint.Of(5), zint.Of(8))
	expect(t, "Hat(5, 8)", h, big.NewInt(-3))
	h, _ = zint.Hat(zint.Of(4), zint.Of(8))
	expect(t, "Hat(4, 8)", h, big.NewInt(-4))
}

func TestP2_2DivFitsMul(t *testing.T) {
	for _, p := range pairs() {
		a, b := p[0], p[1]
		q, r, e := zint.Div(a, b)
		if e != api.OK {
			continue
		}
		if zint.Cmp(zint.Add(zint.Mul(q, b), r), a) != 0 {
			t.Errorf("Div(%v, %v) = %v, %v", a, b, q, r)
		}
		if zint.Sign(r) != 0 && zint.Sign(r) != zint.Sign(b) || zint.Cmp(zint.Abs(r), zint.Abs(b)) >= 0 {
			t.Errorf("Div(%v, %v): remainder %v", a, b, r)
		}
	}
}

// euclid follows the words of the document.
func euclid(a, b *big.Int) (g, x, y *big.Int) {
	r0, x0, y0 := new(big.Int).Abs(a), big.NewInt(1), big.NewInt(0)
	r1, x1, y1 := new(big.Int).Abs(b), big.NewInt(0), big.NewInt(1)
	less := func(u, q, v *big.Int) *big.Int { return new(big.Int).Sub(u, new(big.Int).Mul(q, v)) }
	for r1.Sign() != 0 {
		q := new(big.Int).Quo(r0, r1)
		r0, x0, y0, r1, x1, y1 = r1, x1, y1, less(r0, q, r1), less(x0, q, x1), less(y0, q, y1)
	}
	if a.Sign() < 0 {
		x0.Neg(x0)
	}
	if b.Sign() < 0 {
		y0.Neg(y0)
	}
	return r0, x0, y0
}

func TestP2_3Bezout(t *testing.T) {
	for _, p := range pairs() {
		a, b := p[0], p[1]
		g, x, y := zint.Bezout(a, b)
		wantG, wantX, wantY := euclid(wide(a), wide(b))
		expect(t, "Bezout's g", g, wantG)
		expect(t, "Bezout's x", x, wantX)
		expect(t, "Bezout's y", y, wantY)
		if zint.Cmp(zint.Add(zint.Mul(a, x), zint.Mul(b, y)), g) != 0 {
			t.Errorf("Bezout(%v, %v) = %v, %v, %v", a, b, g, x, y)
		}
		for _, n := range p {
			if _, e := zint.Exact(n, g); e != api.OK && zint.Sign(g) != 0 {
				t.Errorf("Bezout(%v, %v): %v does not divide", a, b, g)
			}
		}
	}
}

func TestP2_3BezoutExamples(t *testing.T) {
	for _, x := range []struct{ a, b, g, x, y int64 }{
		{12, 18, 6, -1, 1}, {-12, 18, 6, 1, 1}, {12, -18, 6, -1, -1}, {0, 0, 0, 1, 0}, {0, 5, 5, 0, 1}, {0, -5, 5, 0, -1},
		{5, 0, 5, 1, 0}, {-5, 0, 5, -1, 0}, {4, 4, 4, 0, 1}, {1, 1, 1, 0, 1}, {240, 46, 2, -9, 47},
	} {
		g, u, v := zint.Bezout(zint.Of(x.a), zint.Of(x.b))
		expect(t, "g", g, big.NewInt(x.g))
		expect(t, "x", u, big.NewInt(x.x))
		expect(t, "y", v, big.NewInt(x.y))
	}
}

func TestP2_4ParseOfText(t *testing.T) {
	for _, a := range samples() {
		back, e := zint.Parse(zint.Text(a))
		if e != api.OK {
			t.Errorf("Parse(Text(%v)): error %d", a, e)
		}
		expect(t, "Parse(Text)", back, wide(a))
	}
}
