package nat_test

import (
	"math"
	"math/big"
	"strings"
	"testing"

	"plumbline/api"
	"plumbline/nat"
)

func TestP1_1Trim(t *testing.T) {
	for _, a := range samples() {
		expect(t, "Trim", nat.Trim(a), wide(a))
	}
	if len(nat.Trim(api.Nat{0, 0})) != 0 || len(nat.Trim(api.Nat{0, 5, 0})) != 2 {
		t.Error("Trim: wrong number of limbs")
	}
}

func TestP1_1Of(t *testing.T) {
	for _, n := range []uint64{0, 1, top, 1 << 32, 1<<32 + 7, 1 << 63, math.MaxUint64} {
		expect(t, "Of", nat.Of(n), new(big.Int).SetUint64(n))
	}
	if two := nat.Of(1 << 32); len(two) != 2 || two[0] != 0 || two[1] != 1 {
		t.Errorf("Of(2^32) = %v", two)
	}
}

func TestP1_1AddMulGcdCmp(t *testing.T) {
	for _, p := range pairs() {
		a, b := p[0], p[1]
		x, y := wide(a), wide(b)
		expect(t, "Add", nat.Add(a, b), new(big.Int).Add(x, y))
		expect(t, "Mul", nat.Mul(a, b), new(big.Int).Mul(x, y))
		expect(t, "Gcd", nat.Gcd(a, b), new(big.Int).GCD(nil, nil, x, y))
		if got, want := nat.Cmp(a, b), x.Cmp(y); got != want {
			t.Errorf("Cmp(%v, %v) = %d", a, b, got)
		}
	}
}

func TestP1_1MulOfUnequalLengths(t *testing.T) {
	long, some := make(api.Nat, 700), make(api.Nat, 50)
	for i := range long {
		long[i] = top - uint32(i%3)
	}
	for i := range some {
		some[i] = top - uint32(i%2)
	}
	for _, n := range []int{1, 47, 48, 49, 50, 51, 95, 96, 97, 99, 100, 101, 350, 699, 700} {
		want := new(big.Int).Mul(wide(long[:n]), wide(some))
		expect(t, "Mul", nat.Mul(long[:n], some), want)
		expect(t, "Mul", nat.Mul(some, long[:n]), want)
		expect(t, "Mul", nat.Mul(long[:n], long), new(big.Int).Mul(wide(long[:n]), wide(long)))
	}
	hole := make(api.Nat, 100) // 2^(99 * 32) + 1: the halves have zero limbs at the end
	hole[0], hole[99] = 1, 1
	expect(t, "Mul", nat.Mul(hole, hole), new(big.Int).Mul(wide(hole), wide(hole)))
}

func TestP1_1Sub(t *testing.T) {
	for _, p := range pairs() {
		a, b := p[0], p[1]
		d, ok := nat.Sub(a, b)
		if want := wide(a).Cmp(wide(b)) >= 0; ok != want {
			t.Fatalf("Sub(%v, %v): %v", a, b, ok)
		}
		if ok {
			expect(t, "Sub", d, new(big.Int).Sub(wide(a), wide(b)))
		} else if d != nil {
			t.Errorf("Sub(%v, %v): %v beside false", a, b, d)
		}
	}
}

func TestP1_1Div(t *testing.T) {
	for _, p := range pairs() {
		a, b := p[0], p[1]
		q, r, e := nat.Div(a, b)
		if wide(b).Sign() == 0 {
			if e != api.ErrZero || q != nil || r != nil {
				t.Errorf("Div(%v, %v) = %v, %v, %d", a, b, q, r, e)
			}
			continue
		}
		want, rest := new(big.Int).QuoRem(wide(a), wide(b), new(big.Int))
		if e != api.OK {
			t.Errorf("Div(%v, %v): error %d", a, b, e)
		}
		expect(t, "Div", q, want)
		expect(t, "Div's remainder", r, rest)
	}
}

func TestP1_1Shifts(t *testing.T) {
	for _, a := range samples() {
		for _, n := range []int{0, 1, 5, 31, 32, 33, 63, 64, 65, 100, 320, 6400} {
			l, e := nat.Left(a, n)
			if e != api.OK {
				t.Errorf("Left by %d: error %d", n, e)
			}
			expect(t, "Left", l, new(big.Int).Lsh(wide(a), uint(n)))
			expect(t, "Right", nat.Right(a, n), new(big.Int).Rsh(wide(a), uint(n)))
		}
		for _, n := range []int{-1, -32, math.MinInt} {
			expect(t, "Right by a negative number", nat.Right(a, n), wide(a))
		}
		if r := nat.Right(a, math.MaxInt); len(r) != 0 {
			t.Errorf("Right by the greatest int: %v", r)
		}
	}
}

func TestP1_1LeftLimits(t *testing.T) {
	for _, x := range []struct {
		n int
		e api.Errno
	}{
		{-1, api.ErrArg}, {math.MinInt, api.ErrArg}, {api.MaxShift + 1, api.ErrLong}, {math.MaxInt, api.ErrLong},
	} {
		for _, a := range edges() {
			if l, e := nat.Left(a, x.n); e != x.e || l != nil {
				t.Errorf("Left(%v, %d) = %v, %d", a, x.n, l, e)
			}
		}
	}
	l, e := nat.Left(nat.Of(3), api.MaxShift)
	if e != api.OK || nat.Bits(l) != api.MaxShift+2 {
		t.Errorf("Left by MaxShift: %d bits, error %d", nat.Bits(l), e)
	}
	if l, e := nat.Left(nil, api.MaxShift); e != api.OK || len(l) != 0 {
		t.Errorf("Left of 0: %d limbs, error %d", len(l), e)
	}
}

func TestP1_1Bits(t *testing.T) {
	for _, a := range samples() {
		w := wide(a)
		if got, want := nat.Bits(a), w.BitLen(); got != want {
			t.Errorf("Bits(%v) = %d, want %d", a, got, want)
		}
		for i := range 32*len(a) + 70 {
			if got, want := nat.Bit(a, i), w.Bit(i) == 1; got != want {
				t.Errorf("Bit(%v, %d) = %v", a, i, got)
			}
		}
		for _, i := range []int{-1, -32, math.MinInt, math.MaxInt} {
			if nat.Bit(a, i) {
				t.Errorf("Bit(%v, %d)", a, i)
			}
		}
	}
}

func TestP1_1Pow(t *testing.T) {
	for _, a := range edges() {
		for n := range 20 {
			p, e := nat.Pow(a, n)
			if e != api.OK {
				t.Errorf("Pow(%v, %d): error %d", a, n, e)
			}
			expect(t, "Pow", p, new(big.Int).Exp(wide(a), big.NewInt(int64(n)), nil))
		}
	}
}

func TestP1_1PowLimits(t *testing.T) {
	zero, one, two := api.Nat{0, 0}, nat.Of(1), nat.Of(2)
	high, _ := nat.Left(one, 63)             // 64 bits
	most, _ := nat.Left(one, api.MaxShift-1) // MaxShift bits
	beyond, _ := nat.Left(one, api.MaxShift) // one more
	for i, x := range []struct {
		a    api.Nat
		n    int
		want *big.Int
		e    api.Errno
	}{
		{zero, 0, big.NewInt(1), api.OK},
		{zero, 1, big.NewInt(0), api.OK},
		{zero, math.MaxInt, big.NewInt(0), api.OK},
		{zero, -1, nil, api.ErrArg},
		{beyond, math.MinInt, nil, api.ErrArg},
		{one, api.MaxShift, big.NewInt(1), api.OK},
		{one, api.MaxShift + 1, nil, api.ErrLong},
		{one, math.MaxInt, nil, api.ErrLong},
		{two, api.MaxShift / 2, new(big.Int).Lsh(big.NewInt(1), api.MaxShift/2), api.OK},
		{two, api.MaxShift/2 + 1, nil, api.ErrLong},
		{nat.Of(4), api.MaxShift / 3, new(big.Int).Lsh(big.NewInt(1), api.MaxShift/3*2), api.OK},
		{nat.Of(4), api.MaxShift/3 + 1, nil, api.ErrLong},
		{high, 1 << 58, nil, api.ErrLong}, // 64 * 2^58 overflows to 0
		{most, 1, wide(most), api.OK},
		{most, 2, nil, api.ErrLong},
		{beyond, 0, big.NewInt(1), api.OK},
		{beyond, 1, nil, api.ErrLong},
	} {
		p, e := nat.Pow(x.a, x.n)
		if e != x.e {
			t.Errorf("case %d: error %d, want %d", i, e, x.e)
		} else if e == api.OK {
			expect(t, "Pow", p, x.want)
		} else if p != nil {
			t.Errorf("case %d: a power beside error %d", i, e)
		}
	}
}

func TestP1_1Root(t *testing.T) {
	one := big.NewInt(1)
	check := func(a api.Nat) {
		t.Helper()
		r := nat.Root(a)
		expect(t, "Root", r, new(big.Int).Sqrt(wide(a)))
		next := new(big.Int).Add(wide(r), one)
		if next.Mul(next, next).Cmp(wide(a)) <= 0 {
			t.Errorf("Root(%v) = %v is too small", a, r)
		}
	}
	for _, a := range samples() {
		check(a)
		square := nat.Mul(a, a)
		check(square)
		check(nat.Add(square, nat.Of(1)))
		if less, ok := nat.Sub(square, nat.Of(1)); ok {
			check(less)
		}
		check(nat.Add(square, nat.Add(a, a))) // the last one before the next square
	}
	for n := range uint64(2000) {
		check(nat.Of(n))
	}
}

func TestP1_1Parse(t *testing.T) {
	for _, s := range []string{
		"0", "00", "007", "9", "10", "999999999", "1000000000", "1000000001", "4294967295", "4294967296",
		"18446744073709551616", "000000000000000000000000000001", "100000000000000000000000000000",
		strings.Repeat("9", 4000), strings.Repeat("0", 4000), strings.Repeat("0", 3999) + "8", strings.Repeat("1234567", 500),
	} {
		want, _ := new(big.Int).SetString(s, 10)
		expect(t, "Parse", parsed(t, s), want)
	}
}

func TestP1_1ParseErrors(t *testing.T) {
	for _, x := range []struct {
		s string
		e api.Errno
	}{
		{"", api.ErrForm}, {"-", api.ErrForm}, {"-1", api.ErrForm}, {"+1", api.ErrForm}, {" 1", api.ErrForm},
		{"1 ", api.ErrForm}, {"1x", api.ErrForm}, {"1_0", api.ErrForm}, {"0x1", api.ErrForm}, {"1.0", api.ErrForm},
		{"/", api.ErrForm}, {":", api.ErrForm}, {"\x00", api.ErrForm}, {"\xff\xfe", api.ErrForm}, {"\u0661", api.ErrForm},
		{strings.Repeat("1", 3999) + "x", api.ErrForm},
		{strings.Repeat("1", 4001), api.ErrLong}, {strings.Repeat("0", 4001), api.ErrLong},
		{strings.Repeat("x", 4001), api.ErrLong}, {strings.Repeat("\u0661", 2001), api.ErrLong},
	} {
		if a, e := nat.Parse(x.s); e != x.e || a != nil {
			t.Errorf("Parse(%.20q) = %v, %d, want error %d", x.s, a, e, x.e)
		}
	}
}

func TestP1_1Text(t *testing.T) {
	for _, a := range samples() {
		if got, want := nat.Text(a), wide(a).String(); got != want {
			t.Errorf("Text(%v) = %s, want %s", a, got, want)
		}
	}
	for n := range 100 { // powers of 10 and their neighbours
		p, _ := nat.Pow(nat.Of(10), n)
		if got, want := nat.Text(p), "1"+strings.Repeat("0", n); got != want {
			t.Errorf("Text of 10^%d = %s", n, got)
		}
		less, _ := nat.Sub(p, nat.Of(1))
		if got, want := nat.Text(less), strings.Repeat("9", n); got != want && n > 0 {
			t.Errorf("Text of 10^%d - 1 = %s", n, got)
		}
	}
}

func TestP1_1Examples(t *testing.T) {
	q, r, _ := nat.Div(nat.Of(100), nat.Of(7))
	expect(t, "100 / 7", q, big.NewInt(14))
	expect(t, "rest of 100 / 7", r, big.NewInt(2))
	expect(t, "Gcd(12, 18)", nat.Gcd(nat.Of(12), nat.Of(18)), big.NewInt(6))
	expect(t, "Root(99)", nat.Root(nat.Of(99)), big.NewInt(9))
	if s := nat.Text(api.Nat{0, 0, 1}); s != "18446744073709551616" {
		t.Errorf("Text of 2^64 = %s", s)
	}
}

func TestP1_2SubUndoesAdd(t *testing.T) {
	for _, p := range pairs() {
		a, b := p[0], p[1]
		if d, ok := nat.Sub(nat.Add(a, b), b); !ok || nat.Cmp(d, a) != 0 {
			t.Errorf("%v + %v - %v = %v, %v", a, b, b, d, ok)
		}
	}
}

func TestP1_2DivFitsMul(t *testing.T) {
	for _, p := range pairs() {
		a, b := p[0], p[1]
		q, r, e := nat.Div(a, b)
		if e != api.OK {
			continue
		}
		if nat.Cmp(nat.Add(nat.Mul(q, b), r), a) != 0 || nat.Cmp(r, b) >= 0 {
			t.Errorf("Div(%v, %v) = %v, %v", a, b, q, r)
		}
	}
}

func TestP1_3ParseOfText(t *testing.T) {
	most := parsed(t, strings.Repeat("9", api.MaxDigits))
	for _, a := range append(samples(), most) {
		if back := parsed(t, nat.Text(a)); nat.Cmp(back, a) != 0 {
			t.Errorf("Parse(Text(%v)) = %v", a, back)
		}
	}
}

func TestP1_1LongNumbers(t *testing.T) {
	p, e := nat.Pow(nat.Of(3), api.MaxShift/2)
	if e != api.OK {
		t.Fatalf("Pow: error %d", e)
	}
	w := new(big.Int).Exp(big.NewInt(3), big.NewInt(api.MaxShift/2), nil)
	expect(t, "3^(2^19)", p, w)
	expect(t, "its root", nat.Root(p), new(big.Int).Exp(big.NewInt(3), big.NewInt(api.MaxShift/4), nil))
	if nat.Text(p) != w.String() {
		t.Error("Text of 3^(2^19)")
	}
}
