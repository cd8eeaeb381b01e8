package shadow_test

import (
	"math"
	"testing"

	"plumbline/api"
	"plumbline/rel"
	"plumbline/shadow"
	"plumbline/term"
	"plumbline/zint"
)

func TestP7_1Shadows(t *testing.T) {
	for _, c := range []struct {
		rs         []api.Rel
		v          int
		real, dark string
	}{
		{nil, 0, "", ""}, {[]api.Rel{}, 3, "", ""},
		{[]api.Rel{least(-1, 1), least(0, -2, 1)}, 0, "y - 2 >= 0", "y - 2 >= 0"},
		{[]api.Rel{least(0, 2, -1), least(1, -3, 1)}, 0, "-y + 2 >= 0", "-y >= 0"},
		{[]api.Rel{least(1, -3, 1), least(0, 2, -1)}, 0, "-y + 2 >= 0", "-y >= 0"},
		// the terms are not made tight
		{[]api.Rel{least(-7, 4, 2), least(9, -6, 2)}, 0, "20*y - 6 >= 0", "20*y - 21 >= 0"},
		{[]api.Rel{least(-7, 4), least(9, -6)}, 0, "-6 >= 0", "-21 >= 0"}, {[]api.Rel{least(0, 1), least(0, -1)}, 0, "0 >= 0", "0 >= 0"},
		// the order
		{[]api.Rel{least(7, 0, 1), least(1, -2, 1), least(2, 3), least(3, 1, 1), least(8, 0, 2), least(4, -5), zero(9, 0, 3)}, 0,
			"y + 7 >= 0, 2*y + 8 >= 0, 3*y + 9 >= 0, 3*y + 7 >= 0, 22 >= 0, 3*y + 7 >= 0, 5*y + 19 >= 0",
			"y + 7 >= 0, 2*y + 8 >= 0, 3*y + 9 >= 0, 3*y + 5 >= 0, 14 >= 0, 3*y + 7 >= 0, 5*y + 19 >= 0"},
		// only bounds on one side
		{[]api.Rel{least(1, 2), least(2, 1), least(3, 0, 1)}, 0, "y + 3 >= 0", "y + 3 >= 0"},
		{[]api.Rel{least(1, -2), least(2, -1)}, 0, "", ""},
		// relations with Eq
		{[]api.Rel{zero(-3, 1), zero(4, 0, 2), least(8, -1)}, 0, "2*y + 4 >= 0, 5 >= 0", "2*y + 4 >= 0, 5 >= 0"},
		{[]api.Rel{zero(-3, 2), zero(5, -3)}, 0, "1 >= 0", "-1 >= 0"},
		// a variable that does not occur
		{[]api.Rel{zero(3, 2, -4), least(5), {T: odd(), Eq: true}}, 2, "2*x - 4*y + 3 >= 0, 5 >= 0, x - 2*y + 3 >= 0", "2*x - 4*y + 3 >= 0, 5 >= 0, x - 2*y + 3 >= 0"},
		{[]api.Rel{zero(3, 2, -4)}, -1, "2*x - 4*y + 3 >= 0", "2*x - 4*y + 3 >= 0"}, {[]api.Rel{{T: odd()}}, -1, "x - 2*y + 3 >= 0", "x - 2*y + 3 >= 0"},
		{[]api.Rel{zero(3, 2)}, math.MinInt, "2*x + 3 >= 0", "2*x + 3 >= 0"}, {[]api.Rel{zero(3, 2)}, math.MaxInt, "2*x + 3 >= 0", "2*x + 3 >= 0"},
		// terms that are not plain
		{[]api.Rel{{T: odd()}, least(1, -3, 0, 1)}, 0, "-6*y + z + 10 >= 0", "-6*y + z + 10 >= 0"},
		{[]api.Rel{{T: odd()}, least(1, 0, 3, 0, 1)}, 1, "3*x + 2*v3 + 11 >= 0", "3*x + 2*v3 + 9 >= 0"},
		{[]api.Rel{{T: sumOf(0, part(1, math.MaxInt), part(4, math.MaxInt))}, {T: sumOf(3, part(-2, math.MaxInt))}}, math.MaxInt, "15 >= 0", "11 >= 0"},
	} {
		expectText(t, "Real of "+texts(c.rs), texts(shadow.Real(c.rs, c.v)), c.real)
		expectText(t, "Dark of "+texts(c.rs), texts(shadow.Dark(c.rs, c.v)), c.dark)
	}
}

// byRules are Real, and Dark, as the document words them.
func byRules(rs []api.Rel, v int, dark bool) []api.Rel {
	var all []api.Rel
	for _, r := range rs {
		if !term.Has(r.T, v) {
			all = append(all, rel.Least(r.T))
		}
	}
	for _, l := range rs {
		a, t := term.Coef(l.T, v), term.Without(l.T, v)
		for _, r := range rs {
			b, u := zint.Neg(term.Coef(r.T, v)), term.Without(r.T, v)
			if zint.Sign(a) <= 0 || zint.Sign(b) <= 0 {
				continue
			}
			sum := term.Add(term.Scale(u, a), term.Scale(t, b))
			if dark {
				product := zint.Mul(zint.Sub(a, number(1)), zint.Sub(b, number(1)))
				sum = term.Sub(sum, term.Number(product))
			}
			all = append(all, rel.Least(sum))
		}
	}
	return all
}

func TestP7_1ShadowsByRules(t *testing.T) {
	for _, rs := range samples(400, 3) {
		for v := -1; v <= 3; v++ {
			real, dark := shadow.Real(rs, v), shadow.Dark(rs, v)
			expectText(t, "Real of "+texts(rs), texts(real), texts(byRules(rs, v, false)))
			expectText(t, "Dark of "+texts(rs), texts(dark), texts(byRules(rs, v, true)))
			expectPlain(t, "Real of "+texts(rs), real)
			expectPlain(t, "Dark of "+texts(rs), dark)
		}
	}
}

func TestP7_1ShadowsOfLongNumbers(t *testing.T) {
	long := func(n uint32) api.Int { return api.Int{Abs: api.Nat{0, 0, n, 0}} } // n * 2^64
	low := api.Rel{T: api.Term{Parts: []api.Part{{V: 0, C: long(3)}}, K: number(1)}}
	high := api.Rel{T: api.Term{Parts: []api.Part{{V: 0, C: zint.Neg(long(5))}, part(1, 1)}}}
	rs := []api.Rel{high, low}
	// (3n - 1)(5n - 1) is 15n^2 - 8n + 1, and n^2 is 2^128
	expectText(t, "Real", texts(shadow.Real(rs, 0)), "55340232221128654848*y + 92233720368547758080 >= 0")
	want := api.Int{Neg: true, Abs: api.Nat{1, 0, 0, 0, 15}}
	want = zint.Add(want, zint.Add(long(8), long(5)))
	got := shadow.Dark(rs, 0)
	if len(got) != 1 || zint.Cmp(got[0].T.K, want) != 0 || zint.Cmp(term.Coef(got[0].T, 1), long(3)) != 0 {
		t.Errorf("Dark: %s", texts(got))
	}
}

// TestP7_2ShadowsHold visits points. Where the relations hold, the real shadow
// does; where the dark shadow holds, there is a Fit, with which all relations hold;
// and where the relations hold and the dark shadow does not, one of the Pieces does.
func TestP7_2ShadowsHold(t *testing.T) {
	all := points(7)
	dark, pieces, refused := 0, 0, 0
	for _, rs := range samples(600, 2) {
		for v := range 2 {
			real, dim := shadow.Real(rs, v), shadow.Dark(rs, v)
			lists, e := shadow.Pieces(rs, v, math.MaxInt32)
			for _, vals := range all {
				without, inDim := hold(withoutEq(rs), vals), hold(dim, vals)
				fit, ok := shadow.Fit(rs, v, vals)
				if without && !hold(real, vals) {
					t.Errorf("Real of %s does not hold at %v", texts(rs), vals)
				}
				if inDim {
					dark++
					with := numbers(0, 0)
					with[v], with[1-v] = fit, vals[1-v]
					if !ok || !hold(withoutEq(rs), with) {
						t.Errorf("Fit of %s at %v: %v, %v", texts(rs), vals, fit, ok)
					}
				}
				held := false
				for _, list := range lists {
					held = held || hold(list, vals)
				}
				if held && !hold(rs, vals) {
					t.Errorf("Pieces of %s hold at %v", texts(rs), vals)
				}
				if !inDim && hold(rs, vals) {
					pieces++
					if e != api.OK || !held {
						t.Errorf("Pieces of %s: none holds at %v", texts(rs), vals)
					}
				}
				if !inDim && !ok {
					refused++
				}
			}
		}
	}
	if dark < 2000 || pieces < 200 || refused < 2000 {
		t.Errorf("the dark shadow holds %d times, Pieces are needed %d times, and there is no Fit %d times", dark, pieces, refused)
	}
}

// TestP7_3ExactFits: if a variable is exact, there is a Fit wherever the real
// shadow holds.
func TestP7_3ExactFits(t *testing.T) {
	all := points(7)
	held, inexact := 0, 0
	for _, rs := range samples(600, 2) {
		v, exact := shadow.Choose(rs)
		if !exact {
			inexact++
			continue
		}
		real := shadow.Real(rs, v)
		for _, vals := range all {
			if !hold(real, vals) {
				continue
			}
			held++
			fit, ok := shadow.Fit(rs, v, vals)
			with := numbers(0, 0)
			with[v], with[1-v] = fit, vals[1-v]
			if !ok || !hold(withoutEq(rs), with) {
				t.Errorf("Fit of %s at %v: %v, %v", texts(rs), vals, fit, ok)
			}
		}
	}
	if held < 10000 || inexact < 50 {
		t.Errorf("the real shadow holds %d times, and %d variables are not exact", held, inexact)
	}
}
