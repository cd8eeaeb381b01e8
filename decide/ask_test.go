package decide_test

import (
	"math"
	"testing"

	"plumbline/api"
	"plumbline/decide"
	"plumbline/omega"
)

func TestP9_1Valid(t *testing.T) {
	above, below := least(-3, 1), least(2, -1) // x >= 3, x <= 2
	for _, c := range []struct {
		f    api.Form
		want string
	}{
		{or(above, below), "yes"}, {or(above, least(1, -1)), "no"}, {or(above, not(above)), "yes"}, {and(above, below), "no"}, {above, "no"},
		{or(least(-3, 1), least(2, -1)), "yes"}, // x > 2 or x < 3
		{yes(), "yes"}, {no(), "no"}, {and(), "yes"}, {or(), "no"}, {of(api.Not), "no"}, {of(-1), "no"}, {of(6), "no"}, {not(of(6)), "yes"},
		{least(0), "yes"}, {least(-1), "no"}, {not(zero(-7, 2)), "yes"}, {zero(-7, 2), "no"}, {not(hollow()), "yes"}, {hollow(), "no"},
		{or(not(zero(0, 1, -2)), not(zero(-7, 1))), "yes"},
		{endless(), "no"}, {not(endless()), "not known"}, {or(not(endless()), above), "not known"}, {or(not(endless()), yes()), "yes"},
		{many(5000, above), "no"}, {not(many(5000, above)), "not known"},
	} {
		expectText(t, text(c.f), said(decide.Valid(c.f, 10000)), c.want)
	}
	for i, f := range samples(600) {
		f = or(not(box()), f) // it holds outside of the box
		holdsIn := len(places(f))
		want := "no"
		if holdsIn == len(points(most)) {
			want = "yes"
		}
		expectText(t, text(f), said(decide.Valid(f, 100000)), want)
		state := decide.Sat(not(f), 0, i).State
		expectText(t, text(f), said(decide.Valid(f, i)), said(state == omega.Unsat, state != omega.Fuel))
	}
}

func TestP9_1Follows(t *testing.T) {
	above := least(-3, 1) // x >= 3
	for _, c := range []struct {
		f, g api.Form
		want string
	}{
		{zero(0, 1, -2), not(zero(-7, 1)), "yes"}, {zero(0, 1, -2), not(zero(-8, 1)), "no"}, // x = 2y, and x != 7
		{above, least(-2, 1), "yes"}, {least(-2, 1), above, "no"}, {above, above, "yes"}, {above, not(above), "no"},
		{no(), no(), "yes"}, {no(), yes(), "yes"}, {yes(), yes(), "yes"}, {yes(), no(), "no"}, {of(6), of(7), "yes"}, {of(api.Not), above, "yes"}, {yes(), of(8), "no"},
		{above, yes(), "yes"}, {above, no(), "no"}, {no(), above, "yes"}, {yes(), above, "no"}, {hollow(), no(), "yes"}, {yes(), hollow(), "no"},
		{and(least(-1, 1), least(-2, 0, 1)), least(-3, 1, 1), "yes"}, {least(-3, 1, 1), and(least(-1, 1), least(-2, 0, 1)), "no"},
		{endless(), no(), "not known"}, {endless(), above, "not known"}, {above, endless(), "no"}, {no(), endless(), "yes"}, {endless(), yes(), "yes"},
		{endless(), endless(), "yes"}, {hollow(), endless(), "yes"},
	} {
		expectText(t, text(c.f)+" and "+text(c.g), said(decide.Follows(c.f, c.g, 10000)), c.want)
	}
	all := samples(600)
	counts := map[string]int{}
	for i, f := range all {
		g := all[(7*i+3)%len(all)]
		if i%3 == 0 {
			g = or(g, f)
		}
		f, g = boxed(f), boxed(g)
		want := "yes"
		in := places(g)
		for place := range places(f) {
			if !in[place] {
				want = "no"
			}
		}
		got := said(decide.Follows(f, g, 100000))
		expectText(t, text(f)+" and "+text(g), got, want)
		counts[got]++
		state := decide.Sat(and(f, not(g)), 0, 5*i).State
		expectText(t, text(f), said(decide.Follows(f, g, 5*i)), said(state == omega.Unsat, state != omega.Fuel))
	}
	if counts["yes"] < 100 || counts["no"] < 100 {
		t.Errorf("%v", counts)
	}
}

func TestP9_1Equal(t *testing.T) {
	above := least(-3, 1) // x >= 3
	for _, c := range []struct {
		f, g api.Form
		want string
	}{
		{above, above, "yes"}, {above, least(-5, 2), "yes"}, {above, least(-2, 1), "no"}, {above, not(above), "no"},
		{yes(), or(above, not(above)), "yes"}, {no(), and(above, not(above)), "yes"}, {no(), of(-3), "yes"}, {yes(), no(), "no"}, {yes(), above, "no"}, {no(), above, "no"},
		{zero(0, 1), and(least(0, 1), least(0, -1)), "yes"}, {hollow(), no(), "yes"}, {hollow(), absurd(), "yes"}, {hollow(), yes(), "no"},
		{endless(), endless(), "yes"}, {endless(), not(not(endless())), "yes"},
		// only one direction is known: false
		{endless(), above, "no"}, {endless(), yes(), "no"}, {or(endless(), least(-4, 1)), above, "no"},
		// only one direction is known: true
		{endless(), no(), "not known"}, {endless(), hollow(), "not known"}, {or(endless(), above), above, "not known"}, {and(endless(), above), above, "no"},
		// none is known
		{and(endless(), least(-1, 1)), and(endless(), least(1, -1)), "not known"},
	} {
		expectText(t, text(c.f)+" and "+text(c.g), said(decide.Equal(c.f, c.g, 10000)), c.want)
		expectText(t, text(c.g)+" and "+text(c.f), said(decide.Equal(c.g, c.f, 10000)), c.want)
	}
}

// combined is the document's rule for the answer of Equal.
func combined(there, thereKnown, back, backKnown bool) string {
	switch {
	case thereKnown && backKnown:
		return said(there && back, true)
	case thereKnown && !there, backKnown && !back:
		return "no"
	}
	return "not known"
}

func TestP9_1EqualOfDirections(t *testing.T) {
	all := samples(500)
	kinds := map[string]int{}
	for i, f := range all {
		g := all[(5*i+2)%len(all)]
		switch i % 4 {
		case 0:
			g = not(and(not(f), not(and(f, g))))
		case 1:
			g = or(f, endless())
		}
		f, g = boxed(f), boxed(g)
		for _, fuel := range []int{-1, 0, 1, 4, 9, 20, 40, 3000, math.MaxInt32} {
			there, thereKnown := decide.Follows(f, g, fuel)
			back, backKnown := decide.Follows(g, f, fuel)
			want := combined(there, thereKnown, back, backKnown)
			expectText(t, text(f)+" and "+text(g), said(decide.Equal(f, g, fuel)), want)
			kinds[said(there, thereKnown)+", "+said(back, backKnown)]++
		}
	}
	for _, kind := range []string{"yes, yes", "yes, no", "no, yes", "no, no", "yes, not known", "not known, yes", "no, not known", "not known, no", "not known, not known"} {
		if kinds[kind] < 5 {
			t.Errorf("%s: only %d samples", kind, kinds[kind])
		}
	}
}

// TestP9_1FuelOfQuestions: the first direction consumes 9, the second 1, each of the
// fuel that is given.
func TestP9_1FuelOfQuestions(t *testing.T) {
	f := and(least(-1, 1), least(-2, 0, 1))
	g := and(least(-1, 1), least(-2, 0, 1), least(-3, 1, 1))
	for _, fuel := range []int{math.MinInt, -1, 0, 1, 2, 8} {
		expectText(t, "Valid", said(decide.Valid(or(not(f), g), fuel)), "not known")
		expectText(t, "Follows", said(decide.Follows(f, g, fuel)), "not known")
		expectText(t, "Equal", said(decide.Equal(f, g, fuel)), "not known")
		expectText(t, "Equal", said(decide.Equal(g, f, fuel)), "not known")
	}
	for _, fuel := range []int{9, 10, 1000, api.MaxFuel, api.MaxFuel + 1, math.MaxInt} {
		expectText(t, "Valid", said(decide.Valid(or(not(f), g), fuel)), "yes")
		expectText(t, "Follows", said(decide.Follows(f, g, fuel)), "yes")
		expectText(t, "Equal", said(decide.Equal(f, g, fuel)), "yes")
		expectText(t, "Equal", said(decide.Equal(g, f, fuel)), "yes")
	}
	// both directions consume 9
	h := or(f, hollow())
	for _, fuel := range []int{0, 8} {
		expectText(t, "Equal", said(decide.Equal(or(hollow(), no()), no(), fuel)), "not known")
	}
	expectText(t, "Equal", said(decide.Equal(hollow(), no(), 9)), "yes")
	both := decide.Sat(and(h, not(f)), 0, 1000)
	expectText(t, "Equal", said(decide.Equal(h, f, 1000-both.Left)), "yes")
	expectText(t, "Equal", said(decide.Equal(h, f, 1000-both.Left-1)), "not known")
}
