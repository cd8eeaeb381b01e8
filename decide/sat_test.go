package decide_test

import (
	"math"
	"testing"

	"plumbline/api"
	"plumbline/decide"
	"plumbline/logic"
	"plumbline/omega"
	"plumbline/zint"
)

func TestP9_1Sat(t *testing.T) {
	above, below := least(-3, 1), least(2, -1) // x >= 3, x <= 2
	for _, c := range []struct {
		f    api.Form
		want string
	}{
		// formulas that always or never hold
		{yes(), "Sat at  after 3"}, {no(), "Unsat after 1"}, {and(), "Sat at  after 3"}, {or(), "Unsat after 1"}, {of(api.Not), "Unsat after 1"},
		{not(no()), "Sat at  after 3"}, {not(yes()), "Unsat after 1"}, {least(3), "Sat at  after 3"}, {zero(3), "Unsat after 1"},
		{or(above, below), "Sat at 3 after 6"}, {or(above, not(above)), "Sat at 3 after 6"}, {or(above, yes()), "Sat at 0 after 3"},
		{and(above, below), "Unsat after 1"}, {and(above, not(above)), "Unsat after 1"}, {and(above, no()), "Unsat after 1"},
		{zero(-6, 4), "Unsat after 1"}, {not(zero(-6, 4)), "Sat at 2 after 6"},
		// kinds that are none
		{of(-1), "Unsat after 1"}, {of(6, yes()), "Unsat after 1"}, {of(math.MaxInt), "Unsat after 1"}, {of(math.MinInt), "Unsat after 1"},
		{not(of(9)), "Sat at  after 3"}, {or(of(-7, above), above), "Sat at 3 after 5"}, {and(of(-7, above), above), "Unsat after 1"},
		{api.Form{Kind: 7, R: leastRel(1, 1)}, "Unsat after 1"},
		// one list, and the first of some
		{least(-6, 4), "Sat at 2 after 5"}, {not(least(-6, 4)), "Sat at 1 after 5"}, {zero(-5, 1), "Sat at 5 after 4"},
		{and(above, least(-4, 0, 1)), "Sat at 3 4 after 8"}, {or(below, above), "Sat at 2 after 6"},
		{not(zero(-5, 1)), "Sat at 6 after 6"}, {and(least(5, -1), not(zero(-5, 1))), "Sat at 4 after 5"},
		{and(or(above, zero(0, 1)), below), "Sat at 0 after 4"}, {not(and(above, zero(0, 0, 1))), "Sat at 2 0 after 7"},
		// lists without a solution: those that are omitted, and those that layer 8 finds
		{absurd(), "Unsat after 1"}, {many(9, absurd()), "Unsat after 1"}, {or(absurd(), above), "Sat at 3 after 5"},
		{hollow(), "Unsat after 9"}, {many(3, hollow()), "Unsat after 25"}, {or(hollow(), hollow(), above), "Sat at 3 0 0 after 21"},
		{or(hollow(), absurd(), above, hollow()), "Sat at 3 0 0 after 14"},
		// what layer 8 does not know
		{endless(), noFuel}, {or(endless(), above), noFuel}, {or(above, endless()), "Sat at 3 0 0 after 6"}, {or(hollow(), endless(), above), noFuel},
	} {
		got := decide.Sat(c.f, 0, 1<<20)
		expectText(t, text(c.f), shown(got, 1<<20), c.want)
		if got.State == omega.Sat && !holds(c.f, got.Vals) {
			t.Errorf("%s does not hold at %s", text(c.f), valTexts(got.Vals))
		}
	}
}

// followed is what the document's words say of Sat, one after the other.
func followed(f api.Form, n, fuel int) omega.Answer {
	nothing := omega.Answer{State: 3}
	fuel = min(max(fuel, 0), 1<<30)
	size := min(max(n, 0), 1<<16)
	for _, v := range logic.Vars(f) {
		if v > 65535 {
			return nothing
		}
		size = max(size, v+1)
	}
	if _, e := logic.Cubes(f, fuel); e != api.OK {
		return nothing
	}
	cubes, e := logic.Cubes(f, 4096)
	if e != api.OK || fuel < 1+len(cubes) {
		return nothing
	}
	left := fuel - (1 + len(cubes))
	for _, cube := range cubes {
		a := omega.Decide(cube, n, left)
		left = a.Left
		switch a.State {
		case 1:
			return omega.Answer{State: 1, Vals: append(a.Vals, make([]api.Int, size)...)[:size], Left: left}
		case 3:
			return nothing
		}
	}
	return omega.Answer{State: 2, Left: left}
}

func TestP9_1Steps(t *testing.T) {
	states := map[int]int{}
	for i, f := range samples(1500) {
		for _, fuel := range []int{i % 10, 1000} {
			n := i%5 - 1
			got := decide.Sat(f, n, fuel)
			expectText(t, text(f), shown(got, fuel), shown(followed(f, n, fuel), fuel))
			states[got.State]++
		}
	}
	if states[omega.Sat] < 800 || states[omega.Unsat] < 400 || states[omega.Fuel] < 400 {
		t.Errorf("states %v", states)
	}
}

// TestP9_1Truth compares the states with what a search of a box finds.
func TestP9_1Truth(t *testing.T) {
	states := map[int]int{}
	for _, f := range samples(1000) {
		a := decide.Sat(f, 0, 20000)
		if a.State == omega.Unsat && len(places(f)) > 0 || a.State == omega.Sat && !holds(f, a.Vals) {
			t.Errorf("%s: %s", text(f), shown(a, 20000))
		}
		f = boxed(f) // then what the search does not find is nowhere
		a = decide.Sat(f, 0, 20000)
		states[a.State]++
		found := len(places(f)) > 0
		if a.State == omega.Unsat && found || a.State == omega.Sat && !(found && holds(f, a.Vals)) {
			t.Errorf("%s: %s", text(f), shown(a, 20000))
		}
		if a.State != omega.Sat && len(a.Vals) > 0 || a.State == omega.Fuel && a.Left > 0 {
			t.Errorf("%s: %s", text(f), shown(a, 20000))
		}
	}
	if states[omega.Sat] < 400 || states[omega.Unsat] < 200 || states[omega.Fuel] > 20 {
		t.Errorf("states %v", states)
	}
}

func TestP9_1NumberOfValues(t *testing.T) {
	far := func(v int) api.Form { return atom(api.Rel{T: sumOf(-2, part(1, v))}) }
	above := least(-3, 1)
	for _, c := range []struct {
		f       api.Form
		n, want int
	}{
		{yes(), math.MinInt, 0}, {yes(), -1, 0}, {yes(), 0, 0}, {yes(), 1, 1}, {yes(), 65535, 65535}, {yes(), 65536, 65536},
		{yes(), 65537, 65536}, {yes(), math.MaxInt32 + 1, 65536}, {yes(), math.MaxInt, 65536},
		{above, math.MinInt, 1}, {above, -1, 1}, {above, 0, 1}, {above, 1, 1}, {above, 2, 2}, {above, 65537, 65536}, {above, math.MaxInt, 65536},
		{far(6), -9, 7}, {far(6), 6, 7}, {far(6), 7, 7}, {far(6), 8, 8}, {far(65535), -1, 65536}, {far(65535), 3, 65536}, {far(65535), math.MaxInt, 65536},
		{far(65534), 0, 65535},
		// the list that is solved need not have the greatest variable
		{or(above, far(6)), 0, 7}, {or(above, far(6)), 5, 7}, {or(above, far(6)), 9, 9}, {or(far(6), above), 3, 7}, {or(yes(), far(6)), 3, 7},
		{or(and(far(9), not(far(9))), above), 0, 10}, {or(above, and(no(), far(9))), 0, 10}, {or(zero(-1, 3, 5), far(9)), 1, 10},
		{or(zero(-1, 3, 5), far(3)), 0, 4}, {or(zero(-1, 3, 5), above), 6, 6}, {not(and(far(4), not(above))), -3, 5},
		// what does not count
		{of(api.True, far(9)), 0, 0}, {or(of(7, far(9)), above), 0, 1}, {not(of(api.And, no(), above)), 0, 1}, {of(api.Not, no(), far(9)), 1, 1},
		{api.Form{Kind: api.True, R: far(9).R}, 0, 0}, {api.Form{Kind: api.Or, R: far(9).R, Kids: []api.Form{above}}, 0, 1},
		{atom(api.Rel{T: sumOf(1, part(1, 1), part(0, 7), part(3, 8), part(-3, 8), part(2, -4))}), 0, 2},
	} {
		got := decide.Sat(c.f, c.n, 1000)
		if got.State != omega.Sat || len(got.Vals) != c.want || !holds(c.f, got.Vals) {
			t.Errorf("%s with n = %d: state %d, %d values, want %d", text(c.f), c.n, got.State, len(got.Vals), c.want)
		}
	}
	for _, n := range []int{math.MinInt, -1, 0, 5, 65537, math.MaxInt} {
		expectText(t, "hollow", shown(decide.Sat(hollow(), n, 20), 20), "Unsat after 9")
		expectText(t, "absurd", shown(decide.Sat(absurd(), n, 20), 20), "Unsat after 1")
		expectText(t, "x >= 3", shown(decide.Sat(above, n, 4), 4), noFuel)
	}
	// values that the list does not determine are 0, also those behind its variables
	expectText(t, "3x + 5y = 1", shown(decide.Sat(or(zero(-1, 3, 5), far(5)), 3, 20), 20), "Sat at 2 -1 0 0 0 0 after 5")
}

// TestP9_1GreatVariables: 65535 is the greatest variable that there may be, also where
// it makes no difference whether its relation holds.
func TestP9_1GreatVariables(t *testing.T) {
	for _, v := range []int{65536, 65537, 1 << 20, math.MaxInt32, math.MaxInt32 + 1, math.MaxInt} {
		great := atom(api.Rel{T: sumOf(0, part(1, 0), part(1, v))})
		for _, f := range []api.Form{
			great, not(great), atom(api.Rel{T: sumOf(-1, part(2, v)), Eq: true}), or(least(0, 1), great), or(yes(), great),
			and(no(), great), and(great, least(0, 1)), and(absurd(), great), or(of(6), not(not(and(great)))),
		} {
			for _, fuel := range []int{math.MinInt, 0, 1, 1000, math.MaxInt} {
				expectText(t, text(f), shown(decide.Sat(f, 2, fuel), fuel), noFuel)
				expectText(t, text(f), said(decide.Valid(f, fuel)), "not known")
				expectText(t, text(f), said(decide.Follows(f, yes(), fuel)), "not known")
				expectText(t, text(f), said(decide.Follows(no(), f, fuel)), "not known")
				expectText(t, text(f), said(decide.Equal(f, f, fuel)), "not known")
			}
		}
		for _, f := range []api.Form{ // the variable does not count
			of(api.True, great), of(api.Not, no(), great), or(yes(), of(6, great)), api.Form{Kind: api.And, R: great.R},
			atom(api.Rel{T: sumOf(0, part(0, v))}), atom(api.Rel{T: sumOf(0, part(2, v), part(-2, v))}),
		} {
			expectText(t, text(f), shown(decide.Sat(f, 0, 9), 9), "Sat at  after 3")
			expectText(t, text(f), said(decide.Valid(f, 9)), "yes")
		}
	}
	last := atom(api.Rel{T: sumOf(-1, part(1, 65535))})
	if a := decide.Sat(last, 0, 9); a.State != omega.Sat || zint.Text(a.Vals[65535]) != "1" {
		t.Errorf("state %d", a.State)
	}
	expectText(t, "v65535 >= 1", said(decide.Valid(last, 9)), "no")
}

// TestP9_1Fuel: 1 and the number of lists is consumed before layer 8 decides.
func TestP9_1Fuel(t *testing.T) {
	for _, c := range []struct {
		f           api.Form
		least, used int // the fuel that is just enough, and what is consumed
	}{
		{no(), 1, 1}, {of(8), 1, 1}, {yes(), 3, 3}, {least(-6, 4), 5, 5}, {or(least(-6, 4), least(0, 1)), 6, 6},
		{hollow(), 9, 9}, {many(3, hollow()), 25, 25}, {or(hollow(), least(-6, 4)), 13, 13},
		{many(10, least(-6, 4)), 14, 14}, {many(300, least(-6, 4)), 304, 304},
		// lists that are omitted are not consumed, but there must not be more than there is fuel
		{absurd(), 1, 1}, {many(2, absurd()), 2, 1}, {many(10, absurd()), 10, 1}, {or(many(20, absurd()), least(-6, 4)), 21, 5},
		{or(least(-6, 4), many(4, absurd())), 5, 5}, {and(many(3, least(-1, 1)), many(3, least(0, -1))), 9, 1},
	} {
		want := decide.Sat(c.f, 0, api.MaxFuel)
		if want.State == omega.Fuel || api.MaxFuel-want.Left != c.used {
			t.Errorf("%.99s: %s", text(c.f), shown(want, api.MaxFuel))
		}
		for fuel := range c.least {
			expectText(t, text(c.f), shown(decide.Sat(c.f, 0, fuel), fuel), noFuel)
		}
		for _, fuel := range []int{math.MinInt, math.MinInt32, -1} {
			expectText(t, text(c.f), shown(decide.Sat(c.f, 0, fuel), fuel), noFuel)
		}
		for _, fuel := range []int{c.least, c.least + 1, c.least + 50, api.MaxFuel - 1, api.MaxFuel} {
			expectText(t, text(c.f), shown(decide.Sat(c.f, 0, fuel), fuel), shown(want, api.MaxFuel))
		}
		for _, fuel := range []int{api.MaxFuel + 1, math.MaxInt32 + 1, math.MaxInt} { // counts as MaxFuel
			expectText(t, text(c.f), shown(decide.Sat(c.f, 0, fuel), api.MaxFuel), shown(want, api.MaxFuel))
		}
	}
}

// ors is And of n Ors of two Atoms each, so that there are 2^n lists.
func ors(n int) api.Form {
	f := and()
	for v := range n {
		low, high := api.Rel{T: sumOf(-3, part(1, v))}, api.Rel{T: sumOf(-3, part(-1, v))}
		f.Kids = append(f.Kids, or(atom(low), atom(high)))
	}
	return f
}

// TestP9_1ManyLists: 4096 lists are allowed, of which those count that are omitted.
func TestP9_1ManyLists(t *testing.T) {
	above := least(-3, 1)
	for _, c := range []struct {
		f    api.Form
		want string
	}{
		{many(4096, above), "Sat at 3 after 4100"}, {many(4097, above), noFuel}, {many(20000, above), noFuel},
		{many(4096, absurd()), "Unsat after 1"}, {many(4097, absurd()), noFuel},
		{or(many(4095, absurd()), above), "Sat at 3 after 5"}, {or(many(4096, absurd()), above), noFuel}, {or(above, many(4096, absurd())), noFuel},
		{many(4096, hollow()), "Unsat after 32769"}, {or(many(4095, hollow()), above), "Sat at 3 0 0 after 32765"},
		{and(many(64, above), many(64, least(0, 0, 1))), "Sat at 3 0 after 4103"}, {and(many(64, above), many(65, least(0, 0, 1))), noFuel},
		{or(many(4097, above), yes()), "Sat at 0 after 3"}, {and(many(4097, above), no()), "Unsat after 1"},
		{ors(13), noFuel}, {ors(1000), noFuel},
	} {
		expectText(t, text(c.f)[:20], shown(decide.Sat(c.f, 0, 1<<20), 1<<20), c.want)
	}
	for _, f := range []api.Form{ors(12), not(ors(12)), not(ors(1000))} { // 4096, 12 and 1000 lists
		if a := decide.Sat(f, 0, 1<<20); a.State != omega.Sat || !holds(f, a.Vals) {
			t.Errorf("state %d", a.State)
		}
	}
}

// chain is a formula of n levels, each of a kind in turn, with an Atom beside.
func chain(n int, kinds ...int) api.Form {
	f := least(0, 1)
	for i := range n {
		kind := kinds[i%len(kinds)]
		f = of(kind, f)
		if kind != api.Not {
			f.Kids = append(f.Kids, least(int64(i), 0, 1))
		}
	}
	return f
}

func TestP9_1DeepFormulas(t *testing.T) {
	for _, c := range []struct {
		f     api.Form
		valid string
	}{
		{chain(1<<16, api.Not), "no"}, {chain(1<<16, api.And), "not known"}, // the negation has 65537 lists
		{chain(200, api.Not, api.And), "no"}, {chain(100, api.And, api.Or), "no"},
	} {
		a := decide.Sat(c.f, 0, 1<<20)
		if a.State != omega.Sat || !holds(c.f, a.Vals) {
			t.Errorf("state %d", a.State)
		}
		expectText(t, "deep", said(decide.Valid(c.f, 1<<20)), c.valid)
		expectText(t, "deep", said(decide.Equal(c.f, not(c.f), 1<<20)), "no")
		if _, e := decide.Short(c.f, 1000); e != api.OK {
			t.Errorf("Short: %d", e)
		}
	}
}

func TestP9_1LongNumbers(t *testing.T) {
	long, e := zint.Parse("123456789012345678901234567890123456789")
	if e != api.OK {
		t.Fatal(e)
	}
	more := zint.Add(long, number(1))
	equal := func(k api.Int) api.Form { // long * x + more * y = k
		return atom(api.Rel{T: api.Term{Parts: []api.Part{{V: 0, C: long}, {V: 1, C: more}}, K: zint.Neg(k)}, Eq: true})
	}
	f := and(or(equal(more), equal(long)), not(zero(0, 1)), least(-1, 0, 1))
	a := decide.Sat(f, 0, 10000)
	if a.State != omega.Sat || !holds(f, a.Vals) {
		t.Errorf("%s", shown(a, 10000))
	}
	above := atom(api.Rel{T: api.Term{Parts: []api.Part{{V: 0, C: long}}, K: zint.Neg(more)}}) // x >= 2
	expectText(t, "x >= 2", said(decide.Equal(above, least(-2, 1), 100)), "yes")
	expectText(t, "x >= 1", said(decide.Equal(above, least(-1, 1), 100)), "no")
}
