package term_test

import (
	"math"
	"math/big"
	"slices"
	"testing"

	"plumbline/api"
	"plumbline/term"
)

var one = big.NewInt(1)

func TestP3_1Plain(t *testing.T) {
	for _, a := range samples() {
		expect(t, "Plain", term.Plain(a), meaning(a))
		expect(t, "Plain of Plain", term.Plain(term.Plain(a)), meaning(a))
	}
}

func TestP3_1NumberVar(t *testing.T) {
	for _, k := range append(oddZeros(), number(7), number(-7), api.Int{Neg: true, Abs: api.Nat{0, 1, 0}}) {
		want := newSum()
		want.k.Set(wide(k))
		expect(t, "Number", term.Number(k), want)
	}
	for _, v := range []int{0, 1, 16, math.MaxInt32 + 1, math.MaxInt, -1, math.MinInt} {
		want := newSum()
		if v >= 0 {
			want.addPart(v, one)
		}
		expect(t, "Var", term.Var(v), want)
	}
}

func TestP3_1AddSub(t *testing.T) {
	for _, a := range samples() {
		for _, b := range samples() {
			want := meaning(a)
			want.add(one, meaning(b))
			expect(t, "Add", term.Add(a, b), want)
			want = meaning(a)
			want.add(big.NewInt(-1), meaning(b))
			expect(t, "Sub", term.Sub(a, b), want)
		}
		expect(t, "Sub of itself", term.Sub(a, a), newSum())
	}
}

func TestP3_1ScaleNeg(t *testing.T) {
	for _, a := range samples() {
		for _, n := range append(oddZeros(), number(1), number(-1), number(3), api.Int{Neg: true, Abs: api.Nat{0, 0, 2, 0}}) {
			want := newSum()
			want.add(wide(n), meaning(a))
			expect(t, "Scale", term.Scale(a, n), want)
		}
		want := newSum()
		want.add(big.NewInt(-1), meaning(a))
		expect(t, "Neg", term.Neg(a), want)
	}
}

func TestP3_1CoefWithoutVarsHas(t *testing.T) {
	for _, a := range samples() {
		m := meaning(a)
		if got := term.Vars(a); !slices.Equal(got, m.vars()) {
			t.Errorf("Vars(%v) = %v", a, got)
		}
		for _, v := range []int{-1, 0, 1, 2, 3, 4, 5, math.MaxInt32, math.MaxInt, math.MinInt} {
			c, has := m.c[v]
			if !has {
				c = new(big.Int)
			}
			expectNumber(t, "Coef", term.Coef(a, v), c)
			if term.Has(a, v) != has {
				t.Errorf("Has(%v, %d) = %v", a, v, !has)
			}
			expect(t, "Without", term.Without(a, v), m.put(map[int]sum{v: newSum()}))
		}
	}
}

func TestP3_1Value(t *testing.T) {
	for _, a := range samples() {
		for _, vals := range lists() {
			expectNumber(t, "Value", term.Value(a, vals), meaning(a).value(vals))
		}
	}
}

func TestP3_1ContentShrink(t *testing.T) {
	for _, a := range samples() {
		m := meaning(a)
		content := new(big.Int)
		for _, c := range m.c {
			content.GCD(nil, nil, content, new(big.Int).Abs(c))
		}
		expectNumber(t, "Content", term.Content(a), content)
		shrunk, by := term.Shrink(a)
		expectNumber(t, "Shrink's content", by, content)
		if content.Sign() > 0 { // Div rounds down if the divisor is positive
			for _, c := range m.c {
				c.Div(c, content)
			}
			m.k.Div(m.k, content)
		}
		expect(t, "Shrink", shrunk, m)
	}
}

func TestP3_1Examples(t *testing.T) {
	twice := term.Plain(sumOf(0, part(1, 0), part(2, 1), part(1, 0)))
	expect(t, "x + 2y + x", twice, meaning(sumOf(0, part(2, 0), part(2, 1))))
	put := term.Put(sumOf(3, part(2, 0)), 0, sumOf(-1, part(1, 1)))
	expect(t, "2x + 3 with y - 1 for x", put, meaning(sumOf(1, part(2, 1))))
	shrunk, content := term.Shrink(sumOf(7, part(4, 0), part(-6, 1)))
	expect(t, "4x - 6y + 7, shrunk", shrunk, meaning(sumOf(3, part(2, 0), part(-3, 1))))
	expectNumber(t, "its content", content, big.NewInt(2))
}

// TestP3_1ShrinkRoundsDown: K is not rounded towards 0.
func TestP3_1ShrinkRoundsDown(t *testing.T) {
	shrunk, _ := term.Shrink(sumOf(-7, part(-2, 0)))
	expect(t, "-2x - 7, shrunk", shrunk, meaning(sumOf(-4, part(-1, 0))))
}

// rank is the order that the document names, by other means: it is that of lists
// of numbers, where what follows the last part is less than any variable.
func rank(s sum) []*big.Int {
	var list []*big.Int
	for _, v := range s.vars() {
		list = append(list, big.NewInt(int64(v)), s.c[v])
	}
	return append(list, big.NewInt(-1), s.k)
}

func TestP3_1CmpSame(t *testing.T) {
	for _, a := range samples() {
		for _, b := range samples() {
			want := slices.CompareFunc(rank(meaning(a)), rank(meaning(b)), (*big.Int).Cmp)
			if got := term.Cmp(a, b); got != want {
				t.Errorf("Cmp(%v, %v) = %d", a, b, got)
			}
			if got := term.Same(a, b); got != (want == 0) {
				t.Errorf("Same(%v, %v) = %v", a, b, got)
			}
		}
	}
}

func TestP3_1CmpInOrder(t *testing.T) {
	rising := []api.Term{
		sumOf(-3), sumOf(0), sumOf(3), sumOf(9, part(-5, 0)), sumOf(9, part(-1, 0)), sumOf(10, part(-1, 0)),
		sumOf(-9, part(-1, 0), part(-2, 1)), sumOf(0, part(-1, 0), part(-7, 2)), sumOf(0, part(1, 0)),
		sumOf(0, part(2, 0), part(-8, 9)), sumOf(0, part(-4, 1)), sumOf(0, part(-9, math.MaxInt)),
	}
	for i, a := range rising {
		for j, b := range rising {
			want := 0
			if i < j {
				want = -1
			} else if i > j {
				want = 1
			}
			if got := term.Cmp(a, b); got != want {
				t.Errorf("Cmp(%v, %v) = %d", a, b, got)
			}
		}
	}
}

// TestP3_2 compares values of results with results of values.
func TestP3_2ValuesOfResults(t *testing.T) {
	for _, vals := range lists() {
		for _, a := range samples() {
			x := wide(term.Value(a, vals))
			expectNumber(t, "value of Neg", term.Value(term.Neg(a), vals), new(big.Int).Neg(x))
			expectNumber(t, "value of Scale", term.Value(term.Scale(a, number(-6)), vals), new(big.Int).Mul(big.NewInt(-6), x))
			for _, b := range edges() {
				y := wide(term.Value(b, vals))
				expectNumber(t, "value of Add", term.Value(term.Add(a, b), vals), new(big.Int).Add(x, y))
				expectNumber(t, "value of Sub", term.Value(term.Sub(a, b), vals), new(big.Int).Sub(x, y))
			}
		}
	}
}

func TestP3_2ValuesOfSubstitutions(t *testing.T) {
	for _, vals := range lists() {
		for _, a := range samples() {
			for _, b := range edges() {
				changed := append(slices.Clone(vals), make([]api.Int, 5)...)
				changed[1] = term.Value(b, vals)
				expectNumber(t, "value of Put", term.Value(term.Put(a, 1, b), vals), wide(term.Value(a, changed)))
				changed[0] = term.Value(a, vals)
				all := term.PutAll(a, []int{1, 0}, []api.Term{b, a})
				expectNumber(t, "value of PutAll", term.Value(all, vals), wide(term.Value(a, changed)))
			}
		}
	}
}

// TestP3_3 asks for the values at which only one variable is not 0: terms that
// have the same there have the same coefficients.
func TestP3_3CmpTellsTermsApart(t *testing.T) {
	points := [][]api.Int{nil}
	for v := range 6 {
		points = append(points, append(make([]api.Int, v), number(1)))
	}
	equal := 0
	near := slices.DeleteFunc(samples(), func(a api.Term) bool {
		return slices.ContainsFunc(a.Parts, func(p api.Part) bool { return p.V > 5 })
	})
	for _, a := range near {
		for _, b := range near {
			same := true
			for _, vals := range points {
				same = same && wide(term.Value(a, vals)).Cmp(wide(term.Value(b, vals))) == 0
			}
			if got := term.Cmp(a, b) == 0; got != same {
				t.Errorf("Cmp(%v, %v) == 0 is %v", a, b, got)
			}
			if same {
				equal++
			}
		}
	}
	if equal <= len(near) {
		t.Error("no two samples are written differently and the same")
	}
}
