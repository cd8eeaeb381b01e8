package omega_test

import (
	"math"
	"testing"

	"plumbline/api"
	"plumbline/omega"
	"plumbline/rel"
	"plumbline/term"
	"plumbline/zint"
)

func TestP8_1Decide(t *testing.T) {
	for _, c := range []struct {
		rs   []api.Rel
		want string
	}{
		// no relations, and relations that always or never hold
		{nil, "Sat at  after 1"}, {[]api.Rel{}, "Sat at  after 1"},
		{[]api.Rel{{}}, "Sat at  after 2"}, {[]api.Rel{least(0), zero(0), least(4)}, "Sat at  after 4"},
		{[]api.Rel{zero(1)}, "Unsat after 2"}, {[]api.Rel{least(0, 1), least(-1)}, "Unsat after 3"}, {[]api.Rel{zero(-3, 2, 4)}, "Unsat after 2"},
		{[]api.Rel{{T: sumOf(-1, part(3, -1))}}, "Unsat after 2"}, {[]api.Rel{{T: sumOf(1, part(2, 1), part(-2, 1))}}, "Sat at  after 2"},
		// the examples of the document
		{[]api.Rel{least(-3, 2), least(3, -2)}, "Unsat after 3"},
		{[]api.Rel{zero(-7, 2, 3), least(0, 1), least(0, 0, 1)}, "Sat at 2 1 after 4"},
		{[]api.Rel{least(-1, 1, -1), least(0, -1, 1)}, "Unsat after 3"},
		// equations, without and with fresh variables
		{[]api.Rel{zero(-5, 1)}, "Sat at 5 after 2"}, {[]api.Rel{zero(5, 1, -1)}, "Sat at -5 0 after 2"},
		{[]api.Rel{zero(-1, 3, 5)}, "Sat at 2 -1 after 2"}, {[]api.Rel{zero(-17, 7, 12, 31), zero(-7, 3, 5, 14)}, "Sat at -1 2 0 after 3"},
		{[]api.Rel{zero(-1, 3, 5), least(-3, 1), least(6, -1)}, "Unsat after 4"},
		{[]api.Rel{zero(-1, 3, 5), least(-5, 1), least(9, -1)}, "Sat at 7 -4 after 4"},
		// the real shadow is exact: the least value, the greatest one, or 0
		{[]api.Rel{least(-3, 2)}, "Sat at 2 after 3"}, {[]api.Rel{least(-3, -2)}, "Sat at -2 after 3"},
		{[]api.Rel{least(0, 1), least(-4, 0, 1)}, "Sat at 0 4 after 6"}, {[]api.Rel{least(7, 2, -3)}, "Sat at -3 0 after 3"},
		{[]api.Rel{least(-2, 1), least(5, -1)}, "Sat at 2 after 5"}, {[]api.Rel{least(-1, 1), least(0, -2, 1)}, "Sat at 1 2 after 6"},
		{[]api.Rel{least(-1, 1, 0, -1), least(0, 0, 1, -1), least(9, -1, -1)}, "Sat at 9 0 0 after 7"},
		// the dark shadow: 3 + 2 + 2 for a real one of 1 relation and a dark one of 1
		{[]api.Rel{least(2, -3, -5), least(4, 3, 5)}, "Sat at -1 0 after 7"},
		{[]api.Rel{least(5, -3, -2), least(-4, 3, 5)}, "Sat at 0 1 after 9"},
		// only a piece has solutions: the first piece, and later ones
		{[]api.Rel{least(-3, -3, -4), least(4, 3, 4)}, "Sat at 0 -1 after 11"},
		{[]api.Rel{least(0, 4, 3), least(5, -4), least(-2, -3, -5)}, "Sat at 1 -1 after 20"},
		{[]api.Rel{least(-5, 3, -5), least(2, 4, 5), least(1, -4, -3)}, "Sat at 1 -1 after 30"},
		// the real shadow has solutions, and no piece does
		{[]api.Rel{least(2, 2, 5), least(-5, 3, -3), least(1, -3, -4)}, "Unsat after 15"},
		{[]api.Rel{least(-27, 11, 13), least(45, -11, -13), least(10, 7, -9), least(4, -7, 9)}, "Unsat after 113"},
	} {
		got := omega.Decide(c.rs, 0, api.MaxFuel)
		expectText(t, texts(c.rs), shown(got, api.MaxFuel), c.want)
		expectForm(t, texts(c.rs), got.Vals)
		if got.State == omega.Sat && !hold(c.rs, got.Vals) {
			t.Errorf("%s do not hold at %s", texts(c.rs), valTexts(got.Vals))
		}
	}
}

func TestP8_1States(t *testing.T) {
	if omega.Sat != 1 || omega.Unsat != 2 || omega.Fuel != 3 {
		t.Errorf("states %d, %d, %d", omega.Sat, omega.Unsat, omega.Fuel)
	}
}

// TestP8_1Truth compares the states with what a search finds.
func TestP8_1Truth(t *testing.T) {
	const most = 3
	known := map[int]int{}
	for i, rs := range samples(700) {
		if i%2 == 0 {
			rs = boxed(rs, most) // then what the search does not find is nowhere
		}
		a := omega.Decide(rs, 3, enough)
		known[a.State]++
		found := holdSomewhere(rs, most)
		switch {
		case a.State == omega.Sat && !hold(rs, a.Vals):
			t.Errorf("%s: Sat, but they do not hold at %s", texts(rs), valTexts(a.Vals))
		case a.State == omega.Sat && i%2 == 0 && !found:
			t.Errorf("%s: Sat, but they hold nowhere", texts(rs))
		case a.State == omega.Unsat && found:
			t.Errorf("%s: Unsat, but they hold somewhere", texts(rs))
		case a.State == omega.Fuel && a.Left != 0, a.State != omega.Sat && len(a.Vals) > 0:
			t.Errorf("%s: state %d with %d values and %d left", texts(rs), a.State, len(a.Vals), a.Left)
		}
	}
	if known[omega.Sat] < 300 || known[omega.Unsat] < 300 || known[omega.Fuel] > 20 {
		t.Errorf("states %v", known)
	}
}

func TestP8_1NumberOfValues(t *testing.T) {
	three := []api.Rel{least(-4, 0, 0, 1)}
	hidden := []api.Rel{{T: sumOf(1, part(3, 1), part(0, 7), part(2, 8), part(-2, 8), part(5, -3))}}
	dropped := []api.Rel{least(-4, 0, 1), {T: sumOf(3, part(1, 6), part(1, 7))}, {T: sumOf(3, part(1, 6), part(1, 7))}}
	fresh := []api.Rel{zero(-1, 3, 5)}
	for _, c := range []struct {
		rs      []api.Rel
		n, want int
	}{
		{nil, math.MinInt, 0}, {nil, -1, 0}, {nil, 0, 0}, {nil, 1, 1}, {nil, 65535, 65535}, {nil, 65536, 65536},
		{nil, 65537, 65536}, {nil, math.MaxInt32 + 1, 65536}, {nil, math.MaxInt, 65536},
		{three, math.MinInt, 3}, {three, -1, 3}, {three, 0, 3}, {three, 2, 3}, {three, 3, 3}, {three, 4, 4}, {three, 65536, 65536}, {three, math.MaxInt, 65536},
		{hidden, 0, 2}, {hidden, 2, 2}, {hidden, 3, 3}, {dropped, 1, 8}, {dropped, 9, 9},
		{fresh, -5, 2}, {fresh, 0, 2}, {fresh, 1, 2}, {fresh, 2, 2}, {fresh, 3, 3}, {fresh, 6, 6}, {fresh, 65536, 65536}, {fresh, math.MaxInt, 65536},
		{[]api.Rel{{T: sumOf(-1, part(1, 65535))}}, 0, 65536}, {[]api.Rel{{T: sumOf(-1, part(1, 65534))}}, 0, 65535},
		{[]api.Rel{{T: sumOf(-1, part(2, 65535), part(-3, 65534)), Eq: true}}, -1, 65536},
	} {
		got := omega.Decide(c.rs, c.n, 100)
		if got.State != omega.Sat || len(got.Vals) != c.want || !hold(c.rs, got.Vals) {
			t.Errorf("%s with n = %d: state %d, %d values", texts(c.rs), c.n, got.State, len(got.Vals))
		}
		expectForm(t, texts(c.rs), got.Vals)
	}
	// values that no relation determines are 0
	expectText(t, "x = 5", shown(omega.Decide([]api.Rel{zero(-5, 1)}, 4, 9), 9), "Sat at 5 0 0 0 after 2")
	expectText(t, "3x + 5y = 1", shown(omega.Decide(fresh, 4, 9), 9), "Sat at 2 -1 0 0 after 2")
}

func TestP8_1NoValues(t *testing.T) {
	for _, n := range []int{math.MinInt, 0, 5, 65536, math.MaxInt} {
		expectText(t, "-1 >= 0", shown(omega.Decide([]api.Rel{least(-1)}, n, 9), 9), "Unsat after 2")
		expectText(t, "3 <= 2x <= 3", shown(omega.Decide([]api.Rel{least(-3, 2), least(3, -2)}, n, 9), 9), "Unsat after 3")
		expectText(t, "x >= 0", shown(omega.Decide([]api.Rel{least(0, 1)}, n, 1), 1), noFuel)
	}
}

// TestP8_1GreatVariables: 65535 is the greatest variable that there may be. Parts
// that do not count in a plain term are no variables.
func TestP8_1GreatVariables(t *testing.T) {
	for _, v := range []int{65536, 65537, 1 << 20, math.MaxInt32, math.MaxInt32 + 1, math.MaxInt - 1, math.MaxInt} {
		for _, r := range []api.Rel{
			{T: sumOf(0, part(1, v))}, {T: sumOf(-1, part(2, v)), Eq: true}, {T: sumOf(0, part(1, 0), part(1, v))},
			{T: sumOf(0, part(2, v), part(-1, v), part(4, 1))},
		} {
			for _, rs := range [][]api.Rel{{r}, {r, least(-1)}, {least(-1), r}, {least(0, 1), r, zero(0, 2)}} {
				for _, fuel := range []int{0, 100, math.MaxInt} {
					expectText(t, texts(rs), shown(omega.Decide(rs, 3, fuel), fuel), noFuel)
				}
				if yes, known := omega.Can(rs, 100); yes || known {
					t.Errorf("Can of %s: %v, %v", texts(rs), yes, known)
				}
			}
		}
		absent := []api.Rel{{T: sumOf(-3, part(0, v), part(1, 0))}, {T: sumOf(3, part(2, v), part(-2, v), part(1, 1))}}
		expectText(t, texts(absent), shown(omega.Decide(absent, 0, 9), 9), "Sat at 3 -3 after 6")
	}
	for _, v := range []int{-1, math.MinInt} {
		rs := []api.Rel{{T: sumOf(-3, part(1, v), part(1, 0))}}
		expectText(t, texts(rs), shown(omega.Decide(rs, 0, 9), 9), "Sat at 3 after 3")
	}
}

// TestP8_1Fuel: the steps consume 3, 2 and 1; with less, the answer is not known.
func TestP8_1Fuel(t *testing.T) {
	rs := []api.Rel{least(-1, 1), least(0, -2, 1)}
	for fuel, want := range map[int]string{
		math.MinInt: noFuel, -1: noFuel, 0: noFuel, 1: noFuel, 2: noFuel, 3: noFuel, 4: noFuel, 5: noFuel, 6: "6 then 0", 7: "6 then 1",
		api.MaxFuel - 1: "6 then 1073741817", api.MaxFuel: "6 then 1073741818", api.MaxFuel + 1: "6 then 1073741818", math.MaxInt: "6 then 1073741818",
	} {
		got := omega.Decide(rs, 0, fuel)
		if want == noFuel {
			expectText(t, texts(rs), shown(got, fuel), noFuel)
			continue
		}
		text := zint.Text(number(int64(min(fuel, api.MaxFuel)-got.Left))) + " then " + zint.Text(number(int64(got.Left)))
		expectText(t, texts(rs)+" at "+valTexts(got.Vals), text, want)
	}
	// no relations consume 1, and each relation consumes 1, even if it says nothing
	expectText(t, "no relations", shown(omega.Decide(nil, 0, 0), 0), noFuel)
	expectText(t, "no relations", shown(omega.Decide(nil, 0, -7), 0), noFuel)
	expectText(t, "no relations", shown(omega.Decide(nil, 0, 1), 1), "Sat at  after 1")
	same := []api.Rel{least(-1), least(-1), least(-1), least(4)}
	expectText(t, texts(same), shown(omega.Decide(same, 0, 4), 4), noFuel)
	expectText(t, texts(same), shown(omega.Decide(same, 0, 5), 5), "Unsat after 5")
}

// band states that a sum with the coefficients a and b is from 1 to 6. If a is great
// enough, b is not 1 and they have no common divisor, a piece has a solution, and the
// first of the a - 1 pieces does.
func band(a, b int64) []api.Rel { return []api.Rel{least(-1, a, b), least(6, -a, -b)} }

// TestP8_1ManyPieces: 4096 pieces are allowed.
func TestP8_1ManyPieces(t *testing.T) {
	for _, fuel := range []int{1 << 20, math.MaxInt} {
		limited := min(fuel, api.MaxFuel)
		expectText(t, "4096 pieces", shown(omega.Decide(band(4097, 2), 0, fuel), limited), "Sat at 1 -2048 after 11")
		expectText(t, "4097 pieces", shown(omega.Decide(band(4098, 5), 0, fuel), limited), noFuel)
		expectText(t, "8190 pieces", shown(omega.Decide(band(8191, 2), 0, fuel), limited), noFuel)
	}
}

// TestP8_1FreshVariables: x and y are determined by a fresh variable, which remains 0.
// It is not one of those that the piece for the other variables needs.
func TestP8_1FreshVariables(t *testing.T) {
	rs := append([]api.Rel{zero(-1, 3, 5)}, rel.Move(band(4097, 2)[0], 2), rel.Move(band(4097, 2)[1], 2))
	for _, n := range []int{0, 4} {
		expectText(t, texts(rs), shown(omega.Decide(rs, n, 5000), 5000), "Sat at 2 -1 1 -2048 after 12")
	}
	expectText(t, texts(rs), shown(omega.Decide(rs, 7, 5000), 5000), "Sat at 2 -1 1 -2048 0 0 0 after 12")
}

// TestP8_1PiecesForFuel: at most as many are allowed as there is fuel left, which are
// 7 less than at first: those for the relations and their shadows.
func TestP8_1PiecesForFuel(t *testing.T) {
	for _, a := range []int{9, 101, 4097} {
		rs := band(int64(a), 2)
		for fuel := range 7 + a - 1 {
			expectText(t, texts(rs), shown(omega.Decide(rs, 0, fuel), fuel), noFuel)
		}
		for fuel := 7 + a - 1; fuel < 7+a+9; fuel++ {
			if got := omega.Decide(rs, 0, fuel); got.State != omega.Sat || got.Left != fuel-11 || !hold(rs, got.Vals) {
				t.Errorf("%s with %d: %s", texts(rs), fuel, shown(got, fuel))
			}
		}
	}
	// there are 2 pieces, so that it is the step for the first that needs more fuel
	two := []api.Rel{least(-3, -3, -4), least(4, 3, 4)}
	expectText(t, texts(two), shown(omega.Decide(two, 0, 10), 10), noFuel)
	expectText(t, texts(two), shown(omega.Decide(two, 0, 11), 11), "Sat at 0 -1 after 11")
}

func TestP8_1Can(t *testing.T) {
	for _, c := range []struct {
		rs         []api.Rel
		fuel       int
		yes, known bool
	}{
		{nil, math.MinInt, false, false}, {nil, 0, false, false}, {nil, 1, true, true}, {nil, math.MaxInt, true, true},
		{[]api.Rel{least(-3, 2), least(3, -2)}, 2, false, false}, {[]api.Rel{least(-3, 2), least(3, -2)}, 3, false, true},
		{[]api.Rel{least(-1, 1), least(0, -2, 1)}, 5, false, false}, {[]api.Rel{least(-1, 1), least(0, -2, 1)}, 6, true, true},
		{[]api.Rel{least(-1)}, math.MaxInt, false, true}, {band(4097, 2), api.MaxFuel, true, true}, {band(4098, 5), api.MaxFuel, false, false},
	} {
		if yes, known := omega.Can(c.rs, c.fuel); yes != c.yes || known != c.known {
			t.Errorf("Can of %s with %d: %v, %v", texts(c.rs), c.fuel, yes, known)
		}
	}
	for i, rs := range samples(100) {
		a := omega.Decide(rs, 0, i)
		if yes, known := omega.Can(rs, i); yes != (a.State == omega.Sat) || known != (a.State != omega.Fuel) {
			t.Errorf("Can of %s with %d: %v, %v", texts(rs), i, yes, known)
		}
	}
}

// planted are relations of three variables with long coefficients, and with a
// solution that is known.
func planted(seed, equations, inequalities int) []api.Rel {
	digits := []string{"7", "123456789012345678901234567890123456789", "-98765432109876543210987654321", "31415926535897932384626433832795028841971"}
	long := func(i int) api.Int {
		n, _ := zint.Parse(digits[i%len(digits)])
		return zint.Add(zint.Mul(n, number(int64(seed+i))), number(int64(i*i+1)))
	}
	vals := []api.Int{long(seed), long(seed + 1), number(int64(seed))}
	var rs []api.Rel
	for i := range equations + inequalities {
		var r api.Rel
		for v := range 3 {
			r.T.Parts = append(r.T.Parts, api.Part{V: v, C: long(3*i + v + seed)})
		}
		r.Eq = i < equations
		r.T.K = zint.Neg(term.Value(r.T, vals))
		if !r.Eq {
			r.T.K = zint.Add(r.T.K, number(int64(i)))
		}
		rs = append(rs, r)
	}
	return rs
}

func TestP8_1LongNumbers(t *testing.T) {
	known := 0
	for seed := range 12 {
		for equations := range 4 {
			rs := planted(seed, equations, 2)
			a := omega.Decide(rs, 0, enough)
			if a.State == omega.Unsat || a.State == omega.Sat && !hold(rs, a.Vals) {
				t.Errorf("%s: %s", texts(rs), shown(a, enough))
			}
			expectForm(t, texts(rs), a.Vals)
			if a.State == omega.Sat {
				known++
			}
			// what contradicts the sum of two relations
			first, second := rs[equations], rs[equations+1]
			rs = append(rs, rel.Deny(api.Rel{T: term.Add(first.T, second.T)})...)
			if a := omega.Decide(rs, 0, enough); a.State == omega.Sat {
				t.Errorf("%s: %s", texts(rs), shown(a, enough))
			}
		}
	}
	if known < 24 {
		t.Errorf("only %d are known", known)
	}
}

// TestP8_1ManyVariables: one after the other is eliminated.
func TestP8_1ManyVariables(t *testing.T) {
	var rs []api.Rel
	for v := range 150 { // each variable is at least twice the one before, less 3
		rs = append(rs, within(v, 4, 1000)...)
		rs = append(rs, api.Rel{T: sumOf(3, part(-2, v), part(1, v+1))})
	}
	a := omega.Decide(rs[:3*6], 0, 1<<20)
	if a.State != omega.Sat || !hold(rs[:3*6], a.Vals) || len(a.Vals) != 7 {
		t.Errorf("state %d, %d values", a.State, len(a.Vals))
	}
	if a := omega.Decide(rs, 0, 1<<20); a.State != omega.Unsat || len(a.Vals) != 0 {
		t.Errorf("state %d, %d values", a.State, len(a.Vals))
	}
}

// TestP8_1ShadowBeyondFuel: a shadow that would have more relations than there is
// fuel is not needed; this one would have 16 million.
func TestP8_1ShadowBeyondFuel(t *testing.T) {
	var rs []api.Rel
	for i := range int64(4000) {
		rs = append(rs, least(i*i, 2*i+3, -2*i-5), least(i*i, -2*i-3, 2*i+7))
	}
	expectText(t, "8000 relations", shown(omega.Decide(rs, 0, 100000), 100000), noFuel)
	expectText(t, "8000 relations", shown(omega.Decide(rs, 0, 8000), 8000), noFuel)
	expectText(t, "8000 relations and a contradiction", shown(omega.Decide(append(rs, least(-1)), 0, 8002), 8002), "Unsat after 8002")
}
