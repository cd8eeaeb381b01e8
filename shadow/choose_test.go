package shadow_test

import (
	"math"
	"testing"

	"plumbline/api"
	"plumbline/shadow"
	"plumbline/term"
	"plumbline/zint"
)

func TestP7_1Choose(t *testing.T) {
	for _, c := range []struct {
		rs    []api.Rel
		v     int
		exact bool
	}{
		// no variable
		{nil, -1, false}, {[]api.Rel{}, -1, false}, {[]api.Rel{least(3), zero(0)}, -1, false},
		{[]api.Rel{{T: sumOf(3, part(0, 1), part(2, 4), part(-2, 4), part(1, -1), part(1, math.MinInt))}}, -1, false},
		// exact: all coefficients on one side are 1, or there are none
		{[]api.Rel{least(0, 2)}, 0, true}, {[]api.Rel{least(0, -2)}, 0, true}, {[]api.Rel{zero(0, -2)}, 0, true},
		{[]api.Rel{least(0, 1), least(5, -3)}, 0, true}, {[]api.Rel{least(0, 3), least(5, -1)}, 0, true},
		{[]api.Rel{least(0, 2), least(5, -3)}, 0, false}, {[]api.Rel{least(0, 1), least(0, 2), least(5, -3)}, 0, false},
		{[]api.Rel{least(0, 2), least(5, -3), least(5, -1)}, 0, false}, {[]api.Rel{least(0, 1), least(0, 2), least(5, -3), least(5, -1)}, 0, false},
		{[]api.Rel{least(0, 1), least(0, 2), least(5, -1), least(6, -1)}, 0, true},
		{[]api.Rel{zero(0, 2), zero(5, -3)}, 0, false}, {[]api.Rel{zero(0, 1), zero(5, -3)}, 0, true},
		{[]api.Rel{{T: api.Term{Parts: []api.Part{{V: 0, C: api.Int{Abs: api.Nat{1, 1}}}}}}, least(5, -3)}, 0, false},
		{[]api.Rel{{T: api.Term{Parts: []api.Part{{V: 0, C: api.Int{Abs: api.Nat{1, 0}}}}}}, least(5, -3)}, 0, true},
		// exact variables are preferred: x has the product 1, y has 2
		{[]api.Rel{least(0, 2, 1), least(5, -3, 1), least(1, 0, -2)}, 1, true},
		{[]api.Rel{least(0, 1, 2), least(5, 1, -3), least(1, -2)}, 0, true},
		// then the smallest product
		{[]api.Rel{least(0, 1, 1), least(5, 1, -1), least(1, -1)}, 1, true},
		{[]api.Rel{least(0, 1), least(5, -1), least(2, 0, 5), least(2, 0, 6), least(2, 0, 7)}, 1, true},
		{[]api.Rel{least(0, 2, 2), least(5, 2, -2), least(1, -2), least(7, -2), least(4, 0, 3)}, 1, false},
		{[]api.Rel{least(0, 2, 2), least(5, -2, 2), least(1, 0, -2), least(7, 0, -2), least(4, 3)}, 0, false},
		// then the smallest variable
		{[]api.Rel{least(0, 0, 1, 1), least(5, 0, -1, -1)}, 1, true}, {[]api.Rel{least(0, 2, 2), least(5, -2, -2)}, 0, false},
		{[]api.Rel{least(0, 2, 2), least(5, 2, -2), least(1, -2), least(4, 0, 3)}, 0, false},
		{[]api.Rel{{T: sumOf(0, part(1, math.MaxInt), part(1, 1<<40))}}, 1 << 40, true}, {[]api.Rel{{T: sumOf(0, part(5, math.MaxInt))}}, math.MaxInt, true},
		// a term that is not plain
		{[]api.Rel{{T: odd()}}, 0, true}, {[]api.Rel{{T: odd()}, least(5, -2)}, 1, true},
		{[]api.Rel{{T: sumOf(0, part(1, 0), part(1, 0))}, least(5, -2)}, 0, false},
	} {
		if v, exact := shadow.Choose(c.rs); v != c.v || exact != c.exact {
			t.Errorf("Choose of %s: %d, %v", texts(c.rs), v, exact)
		}
	}
}

// chosenByRules is Choose as the document words it.
func chosenByRules(rs []api.Rel, variables int) (best int, bestExact bool) {
	best = -1
	bestProduct := 0
	for v := range variables {
		lower, upper, bigLower, bigUpper := 0, 0, 0, 0
		for _, r := range rs {
			c, _ := zint.Small(term.Coef(r.T, v))
			switch {
			case c > 1:
				bigLower++
				fallthrough
			case c == 1:
				lower++
			case c < -1:
				bigUpper++
				fallthrough
			case c == -1:
				upper++
			}
		}
		exact := bigLower == 0 || bigUpper == 0
		switch {
		case lower+upper == 0:
		case best < 0, exact && !bestExact, exact == bestExact && lower*upper < bestProduct:
			best, bestExact, bestProduct = v, exact, lower*upper
		}
	}
	return best, bestExact
}

func TestP7_1ChooseByRules(t *testing.T) {
	exacts := 0
	all := append(samples(1500, 3), samples(1500, 6)...)
	for _, rs := range all {
		want, wantExact := chosenByRules(rs, 6)
		if v, exact := shadow.Choose(rs); v != want || exact != wantExact {
			t.Errorf("Choose of %s: %d, %v, want %d, %v", texts(rs), v, exact, want, wantExact)
		}
		if wantExact {
			exacts++
		}
	}
	if exacts < 500 || exacts > len(all)-500 {
		t.Errorf("%d of %d variables are exact", exacts, len(all))
	}
}
