package shadow_test

import (
	"math"
	"testing"

	"plumbline/api"
	"plumbline/shadow"
	"plumbline/term"
	"plumbline/zint"
)

func TestP7_1Fit(t *testing.T) {
	const none = "none"
	for _, c := range []struct {
		rs   []api.Rel
		v    int
		vals []api.Int
		want string
	}{
		// no bound
		{nil, 0, nil, "0"}, {[]api.Rel{}, 7, numbers(4), "0"}, {[]api.Rel{least(-9, 0, 1), least(-1), zero(4)}, 0, numbers(4, 5), "0"},
		{[]api.Rel{least(-9, 1)}, -1, numbers(4), "0"}, {[]api.Rel{least(-9, 1)}, math.MinInt, numbers(4), "0"}, {[]api.Rel{least(-9, 1)}, math.MaxInt, nil, "0"},
		// lower bounds, rounded up
		{[]api.Rel{least(-7, 2)}, 0, nil, "4"}, {[]api.Rel{least(7, 2)}, 0, nil, "-3"}, {[]api.Rel{least(-8, 2)}, 0, nil, "4"}, {[]api.Rel{least(8, 2)}, 0, nil, "-4"},
		{[]api.Rel{least(-1, 1), least(-7, 2), least(-2, 1)}, 0, nil, "4"}, {[]api.Rel{least(5, 1), least(3, 1), least(4, 1)}, 0, nil, "-3"},
		// upper bounds, rounded down
		{[]api.Rel{least(7, -2)}, 0, nil, "3"}, {[]api.Rel{least(-7, -2)}, 0, nil, "-4"}, {[]api.Rel{least(8, -2)}, 0, nil, "4"}, {[]api.Rel{least(-8, -2)}, 0, nil, "-4"},
		{[]api.Rel{least(9, -1), least(7, -2), least(8, -1)}, 0, nil, "3"}, {[]api.Rel{least(-5, -1), least(-6, -1), least(-4, -1)}, 0, nil, "-6"},
		// both
		{[]api.Rel{least(9, -1), least(-3, 1)}, 0, nil, "3"}, {[]api.Rel{least(3, -1), least(-3, 1)}, 0, nil, "3"}, {[]api.Rel{least(2, -1), least(-3, 1)}, 0, nil, none},
		{[]api.Rel{least(-3, 2), least(3, -2)}, 0, nil, none}, {[]api.Rel{least(-3, 2), least(4, -2)}, 0, nil, "2"},
		{[]api.Rel{least(9, -1), least(-3, 1), least(4, -1), least(-5, 1)}, 0, nil, none}, {[]api.Rel{least(9, -1), least(5, -1), least(4, 1), least(-5, 1)}, 0, nil, "5"},
		// values of the other variables; that of v is ignored
		{[]api.Rel{least(1, 2, -3)}, 0, numbers(99, 5), "7"}, {[]api.Rel{least(1, 2, -3)}, 0, numbers(-99), "0"}, {[]api.Rel{least(1, 2, -3)}, 0, nil, "0"},
		{[]api.Rel{least(1, 2, -3)}, 1, numbers(10, 99), "7"}, {[]api.Rel{least(1, 2, -3)}, 1, nil, "0"}, {[]api.Rel{least(-2, 2, 0, 0, -3)}, 3, numbers(1), "0"},
		{[]api.Rel{least(1, 2, -3), least(20, -1)}, 0, numbers(0, 13), "19"}, {[]api.Rel{least(1, 2, -3), least(20, -1)}, 0, numbers(0, 14), none},
		{[]api.Rel{least(0, 1, 1)}, 0, []api.Int{number(1), {Neg: true, Abs: api.Nat{0, 7, 0}}}, "30064771072"},
		// relations that do not contain v need not hold
		{[]api.Rel{least(-3, 1), least(-1), least(-8, 0, 1)}, 0, nil, "3"},
		// relations with Eq are bounds on one side
		{[]api.Rel{zero(-3, 1)}, 0, nil, "3"}, {[]api.Rel{zero(-3, 2)}, 0, nil, "2"}, {[]api.Rel{zero(3, -2)}, 0, nil, "1"},
		{[]api.Rel{zero(-3, 1), zero(-8, 1)}, 0, nil, "8"}, {[]api.Rel{zero(-3, 1), zero(2, -1)}, 0, nil, none},
		// terms that are not plain
		{[]api.Rel{{T: odd()}}, 0, numbers(50, 4, 3, 2, 1), "5"}, {[]api.Rel{{T: odd()}}, 1, numbers(6, 50, 3, 2, 1), "4"}, {[]api.Rel{{T: odd()}}, 2, numbers(6, 50, 3, 2, 1), "0"},
		{[]api.Rel{{T: sumOf(-7, part(1, 0), part(9, -1), part(1, 0))}}, 0, numbers(5), "4"}, {[]api.Rel{{T: sumOf(-7, part(2, math.MaxInt))}}, math.MaxInt, nil, "4"},
		{[]api.Rel{{T: api.Term{Parts: []api.Part{part(1, 0)}, K: api.Int{Neg: true, Abs: api.Nat{0, 0}}}}}, 0, nil, "0"},
	} {
		got, ok := shadow.Fit(c.rs, c.v, c.vals)
		text := zint.Text(got)
		if !ok {
			text = none
		}
		expectText(t, "Fit of "+texts(c.rs), text, c.want)
		if len(got.Abs) == 0 && got.Neg || !ok && zint.Sign(got) != 0 {
			t.Errorf("Fit of %s: %v, %v", texts(c.rs), got, ok)
		}
	}
}

// bounds are the relations that contain v, without Eq.
func bounds(rs []api.Rel, v int) (lower, all []api.Rel) {
	for _, r := range withoutEq(rs) {
		if term.Has(r.T, v) {
			all = append(all, r)
		}
		if zint.Sign(term.Coef(r.T, v)) > 0 {
			lower = append(lower, r)
		}
	}
	return lower, all
}

// TestP7_1FitIsNext compares a Fit with its neighbours: it is the smallest value
// for the lower bounds or, without these, the greatest value for the upper bounds.
// If there is none, no value of many fits.
func TestP7_1FitIsNext(t *testing.T) {
	fits, none := 0, 0
	for _, rs := range samples(500, 2) {
		for v := range 2 {
			lower, all := bounds(rs, v)
			for other := int64(-9); other <= 9; other += 3 {
				with := func(n api.Int) []api.Int {
					vals := numbers(other, other)
					vals[v] = n
					return vals
				}
				got, ok := shadow.Fit(rs, v, with(number(77)))
				switch {
				case !ok:
					none++
					for n := int64(-60); n <= 60; n++ {
						if hold(all, with(number(n))) {
							t.Errorf("Fit of %s, where %d is %d: %d fits", texts(rs), 1-v, other, n)
						}
					}
					continue
				case !hold(all, with(got)):
					t.Errorf("Fit of %s, where %d is %d: %v", texts(rs), 1-v, other, got)
				case len(lower) > 0 && hold(lower, with(zint.Sub(got, number(1)))),
					len(lower) == 0 && len(all) > 0 && hold(all, with(zint.Add(got, number(1)))),
					len(all) == 0 && zint.Sign(got) != 0:
					t.Errorf("Fit of %s, where %d is %d: %v is not the next", texts(rs), 1-v, other, got)
				}
				fits++
			}
		}
	}
	if fits < 1000 || none < 500 {
		t.Errorf("%d Fits, and %d times none", fits, none)
	}
}
