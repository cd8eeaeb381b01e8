package elim_test

import (
	"fmt"
	"math"
	"math/big"
	"math/rand"
	"testing"

	"plumbline/api"
	"plumbline/elim"
	"plumbline/rel"
	"plumbline/term"
	"plumbline/zint"
)

func TestP6_1Solve(t *testing.T) {
	for _, c := range []struct {
		rs   []api.Rel
		next int
		want string
	}{
		// no relations, and no equation
		{nil, 0, "true: ; ; 0 to 0"}, {[]api.Rel{}, 5, "true: ; ; 5 to 5"},
		{[]api.Rel{least(0, 1)}, 0, "true: x >= 0; ; 1 to 1"},
		{[]api.Rel{least(7, 0, 1), least(-6, 4), least(2, -1, 1), least(3, 1)}, 0, "true: -x + y + 2 >= 0, x - 2 >= 0, y + 7 >= 0; ; 2 to 2"},
		// relations that always or never hold
		{[]api.Rel{least(0), zero(0), least(4), {}}, 3, "true: ; ; 3 to 3"},
		{[]api.Rel{least(0, 1), least(-1)}, 9, "false: ; ; 0 to 0"},
		{[]api.Rel{zero(1)}, 9, "false: ; ; 0 to 0"},
		{[]api.Rel{zero(-3, 2, 4)}, 9, "false: ; ; 0 to 0"},
		{[]api.Rel{zero(0, 1), zero(1, 1)}, 9, "false: ; ; 0 to 0"},
		{[]api.Rel{zero(0, 1, -1), zero(1, 0, 1, -1), zero(2, 1, 0, -1)}, 9, "false: ; ; 0 to 0"},
		// a coefficient 1 or -1
		{[]api.Rel{zero(3, 1, -2), least(0, 1)}, 0, "true: y - 2 >= 0; x := 2*y - 3; 2 to 2"},
		{[]api.Rel{zero(-5, 1)}, 0, "true: ; x := 5; 1 to 1"},
		{[]api.Rel{zero(-10, -2)}, 0, "true: ; x := -5; 1 to 1"},
		{[]api.Rel{zero(4, 2, -1, 1)}, 0, "true: ; y := 2*x + v2 + 4; 3 to 3"},
		{[]api.Rel{zero(4, 2, 3, 1)}, 0, "true: ; v2 := -2*x - 3*y - 4; 3 to 3"},
		{[]api.Rel{zero(0, 1, 1)}, 0, "true: ; x := -y; 2 to 2"},
		{[]api.Rel{zero(0, -1, 1)}, 0, "true: ; x := y; 2 to 2"},
		{[]api.Rel{zero(0, 2, 3), zero(0, 0, 1, -1)}, 0, "true: ; y := v2, x := -3*v3, v2 := 2*v3; 3 to 4"},
		{[]api.Rel{least(0, 1), least(0, -1), least(-4, 1, 1)}, 0, "true: y - 4 >= 0; x := 0; 2 to 2"},
		{[]api.Rel{zero(0, 1, -1), zero(-4, 0, 1, -1), least(0, 1)}, 0, "true: v2 + 4 >= 0; x := y, y := v2 + 4; 3 to 3"},
		// fresh variables
		{[]api.Rel{zero(-1, 3, 5)}, 0, "true: ; x := y - 4*v2 - 1, y := -3*v3 - 1, v2 := -2*v3 - 1; 2 to 4"},
		{[]api.Rel{zero(-1, 3, 5)}, 8, "true: ; x := y - 4*v8 - 1, y := -3*v9 - 1, v8 := -2*v9 - 1; 8 to 10"},
		{[]api.Rel{zero(-1, 5, -3)}, 0, "true: ; y := -x + 4*v2 + 1, x := -3*v3 - 1, v2 := -2*v3 - 1; 2 to 4"},
		{[]api.Rel{zero(-6, 4, 6)}, 0, "true: ; x := -3*v2, y := 2*v2 + 1; 2 to 3"},
		{[]api.Rel{zero(0, 4, -4, 7)}, 0, "true: ; x := y + 2*v2 - 5*v3, v2 := -4*v4, v3 := -3*v4; 3 to 5"},
		{[]api.Rel{zero(-1, 3, 5), least(0, 1), least(9, -1, 0)}, 0,
			"true: -v3 + 1 >= 0, v3 >= 0; x := y - 4*v2 - 1, y := -3*v3 - 1, v2 := -2*v3 - 1; 2 to 4"},
		{[]api.Rel{zero(-1, 3, 5), least(-5, 1), least(4, -1)}, 0, "false: ; ; 0 to 0"},
		// each is solved to its end, although -y - 8*v3 + 7*v2 - 3 comes of the other one
		{[]api.Rel{zero(1, 4, -5, 7), zero(-1, 3, 5)}, 0,
			"true: ; x := y - 4*v3 - 1, y := -3*v4 - 1, v3 := -2*v4 - 1, v2 := -5*v4 - 2; 3 to 5"},
	} {
		expectText(t, "Solve of "+relTexts(c.rs), shown(elim.Solve(c.rs, c.next)), c.want)
	}
}

func TestP6_1First(t *testing.T) {
	for _, c := range []struct {
		rs          []api.Rel
		next, first int
	}{
		{nil, -1, 0}, {nil, math.MinInt, 0}, {nil, 1, 1}, {nil, 1<<20 - 1, 1<<20 - 1}, {nil, 1 << 20, 1 << 20},
		{nil, 1<<20 + 1, 1 << 20}, {nil, math.MaxInt32 + 1, 1 << 20}, {nil, math.MaxInt, 1 << 20},
		{[]api.Rel{least(0, 1, 2, 3)}, 2, 3}, {[]api.Rel{least(0, 1, 2, 3)}, 3, 3}, {[]api.Rel{least(0, 1, 2, 3)}, 4, 4},
		{[]api.Rel{least(0, 1, 2, 3), zero(0, 1), zero(0, 0, 1)}, -4, 3},
		// the relation is omitted by Tidy
		{[]api.Rel{least(5, 0, 0, 1), least(3, 0, 0, 1)}, 1, 3}, {[]api.Rel{zero(0, 1), zero(0, 1, 0, 1), zero(0, 0, 0, 1)}, 0, 3},
		// variables without a coefficient other than 0, and negative ones
		{[]api.Rel{least(0, 1, 0, 0)}, 0, 1}, {[]api.Rel{{T: sumOf(3, part(1, -1), part(1, math.MinInt))}}, 0, 0},
		{[]api.Rel{{T: sumOf(3, part(2, 7), part(-2, 7), part(1, 4))}}, 0, 5},
		{[]api.Rel{{T: sumOf(3, part(2, 7), part(1, 4))}}, 0, 8},
		// great variables
		{[]api.Rel{{T: sumOf(0, part(1, 1<<20))}}, 0, 1<<20 + 1}, {[]api.Rel{{T: sumOf(0, part(1, 1<<20))}}, math.MaxInt, 1<<20 + 1},
		{[]api.Rel{{T: sumOf(0, part(1, math.MaxInt32-1))}}, 0, math.MaxInt32},
		{[]api.Rel{{T: sumOf(0, part(1, math.MaxInt32))}}, 0, math.MaxInt32 + 1},
		{[]api.Rel{{T: sumOf(0, part(1, math.MaxInt32+1))}}, 0, math.MaxInt32 + 1},
		{[]api.Rel{{T: sumOf(0, part(1, math.MaxInt))}}, 0, math.MaxInt32 + 1},
	} {
		if got := elim.Solve(c.rs, c.next); !got.OK || got.First != c.first || got.Next != c.first {
			t.Errorf("Solve of %s with %d: %s", relTexts(c.rs), c.next, shown(got))
		}
	}
}

// TestP6_1GreatVariables: they count as 2^31 - 1 only for the number of the first
// fresh variable.
func TestP6_1GreatVariables(t *testing.T) {
	for _, c := range []struct {
		r    api.Rel
		want string
	}{
		{api.Rel{T: sumOf(-4, part(1, math.MaxInt), part(2, 0)), Eq: true},
			"true: ; v9223372036854775807 := -2*x + 4; 2147483648 to 2147483648"},
		{api.Rel{T: sumOf(-1, part(2, math.MaxInt), part(3, 0)), Eq: true},
			"true: ; v9223372036854775807 := -3*v2147483648 - 1, x := 2*v2147483648 + 1; 2147483648 to 2147483649"},
		{api.Rel{T: sumOf(-1, part(2, math.MaxInt32), part(3, 0)), Eq: true},
			"true: ; v2147483647 := -3*v2147483648 - 1, x := 2*v2147483648 + 1; 2147483648 to 2147483649"},
	} {
		expectText(t, "Solve of "+relTexts([]api.Rel{c.r}), shown(elim.Solve([]api.Rel{c.r}, 0)), c.want)
	}
}

// floor is a / b, rounded down; b is positive.
func floor(a, b *big.Int) *big.Int {
	q, _ := new(big.Int).DivMod(a, b, new(big.Int)) // the remainder is not negative
	return q
}

// hat is a - m * floor(a / m + 1/2).
func hat(a api.Int, m *big.Int) api.Int {
	n, _ := new(big.Int).SetString(zint.Text(a), 10)
	twice := new(big.Int).Add(new(big.Int).Lsh(n, 1), m)
	times := floor(twice, new(big.Int).Lsh(m, 1))
	r, _ := zint.Parse(n.Sub(n, times.Mul(times, m)).String())
	return r
}

// bySize returns the first variable of t with the smallest absolute value of its
// coefficient, that value and the sign.
func bySize(t api.Term) (v int, size *big.Int, sign int64) {
	for _, p := range t.Parts {
		n, _ := new(big.Int).SetString(zint.Text(p.C), 10)
		if size == nil || n.CmpAbs(size) < 0 {
			v, size, sign = p.V, new(big.Int).Abs(n), int64(n.Sign())
		}
	}
	return v, size, sign
}

// swapByRules is the Swap for the equation t = 0.
func swapByRules(t api.Term, fresh int) (elim.Swap, bool) {
	v, size, sign := bySize(t)
	if size.Cmp(big.NewInt(1)) == 0 {
		return elim.Swap{V: v, T: term.Scale(term.Without(t, v), number(-sign))}, false
	}
	m := new(big.Int).Add(size, big.NewInt(1))
	modulus, _ := zint.Parse(m.String())
	sum := api.Term{Parts: []api.Part{{V: fresh, C: zint.Neg(modulus)}}, K: hat(t.K, m)}
	for _, p := range t.Parts {
		if p.V != v {
			sum = term.Add(sum, api.Term{Parts: []api.Part{{V: p.V, C: hat(p.C, m)}}})
		}
	}
	return elim.Swap{V: v, T: term.Scale(sum, number(sign))}, true
}

// chosenByRules is the equation chosen of a tidy list, if none is unsolved.
func chosenByRules(rs []api.Rel) (api.Rel, bool) {
	var first api.Rel
	for _, r := range rs {
		if !r.Eq {
			continue
		}
		if _, size, _ := bySize(r.T); size.Cmp(big.NewInt(1)) == 0 {
			return r, true
		}
		if !first.Eq {
			first = r
		}
	}
	return first, first.Eq
}

// byRules is Solve as the document words it. It counts in how many repetitions the
// rule that an equation is solved to its end makes a difference.
func byRules(rs []api.Rel, next int, differences *int) elim.Solved {
	first := min(max(next, 0), 1<<20)
	for _, r := range rs {
		for _, p := range term.Plain(r.T).Parts {
			first = max(first, 1+min(p.V, 1<<31-1))
		}
	}
	s := elim.Solved{OK: true, First: first, Next: first}
	var unsolved api.Rel
	for {
		tidy, ok := rel.Tidy(rs)
		if !ok {
			return elim.Solved{}
		}
		eq, found := chosenByRules(tidy)
		if !found {
			s.Rest = tidy
			return s
		}
		if unsolved.Eq {
			if !rel.Same(eq, unsolved) {
				*differences++
			}
			eq = unsolved
		}
		swap, fresh := swapByRules(eq.T, s.Next)
		unsolved = api.Rel{}
		if fresh {
			unsolved, _ = rel.Tight(rel.Put(eq, swap.V, swap.T))
			s.Next++
		}
		s.Swaps = append(s.Swaps, swap)
		rs = nil
		for _, r := range tidy {
			rs = append(rs, rel.Put(r, swap.V, swap.T))
		}
	}
}

func TestP6_1SolveByRules(t *testing.T) {
	solved, fresh, differences := 0, 0, 0
	for i, x := range samples() {
		next := i%7 - 1
		got := elim.Solve(x.rs, next)
		expectText(t, "Solve of "+relTexts(x.rs), shown(got), shown(byRules(x.rs, next, &differences)))
		if got.OK {
			solved++
			fresh += got.Next - got.First
		}
	}
	if solved < 500 || solved > 1500 || fresh < 500 || differences < 15 {
		t.Errorf("%d are solved, with %d fresh variables, and solving to the end matters %d times", solved, fresh, differences)
	}
}

// sparse has one or two of several variables.
func sparse(r *rand.Rand, variables int, k int64, eq bool) api.Rel {
	a := api.Rel{T: sumOf(k), Eq: eq}
	for range 1 + r.Intn(2) {
		a.T.Parts = append(a.T.Parts, part((1+r.Int63n(4)/3)*(1-2*r.Int63n(2)), r.Intn(variables)))
	}
	return a
}

// TestP6_1SolveOfManyByRules: lists with many relations, of which a term that is
// substituted changes few or many, and some of these get the sums of others.
func TestP6_1SolveOfManyByRules(t *testing.T) {
	r := rand.New(rand.NewSource(61))
	solved, failed, differences := 0, 0, 0
	for i := range 1500 {
		var rs []api.Rel
		for range 5 + r.Intn(46) {
			rs = append(rs, sparse(r, 3+i%12, r.Int63n(30)+r.Int63n(2)*20, false))
		}
		for range 1 + r.Intn(1+i%12) {
			rs[r.Intn(len(rs))] = sparse(r, 3+i%12, r.Int63n(5)-2, true)
		}
		got := elim.Solve(rs, 0)
		expectText(t, "Solve of "+relTexts(rs), shown(got), shown(byRules(rs, 0, &differences)))
		if got.OK {
			solved += min(len(got.Swaps), 1)
		} else {
			failed++
		}
	}
	if solved < 500 || failed < 200 {
		t.Errorf("%d are solved, %d are not", solved, failed)
	}
}

// TestP6_1SolveOfLongLists: equations one after the other, which are thousands where paths
// of many states are asked about.
func TestP6_1SolveOfLongLists(t *testing.T) {
	const n = 2500
	var rs []api.Rel
	for v := range n {
		rs = append(rs, api.Rel{T: sumOf(1, part(1, v), part(-1, v+1)), Eq: true}) // one greater
	}
	for _, x := range []struct {
		last api.Rel
		want string
	}{
		{api.Rel{T: sumOf(-7, part(1, n))}, fmt.Sprintf("true 2500, v%d - 7 >= 0", n)}, {api.Rel{T: sumOf(-7, part(1, 0))}, fmt.Sprintf("true 2500, v%d - %d >= 0", n, n+7)}, {api.Rel{T: sumOf(0, part(1, 0), part(-1, n)), Eq: true}, "false 0, "}, {api.Rel{T: sumOf(n, part(1, 0), part(-1, n)), Eq: true}, "true 2500, "},
	} {
		s := elim.Solve(append(rs, x.last), 0)
		expectText(t, relTexts([]api.Rel{x.last}), fmt.Sprint(s.OK, " ", len(s.Swaps), ", ", relTexts(s.Rest)), x.want)
	}
}

// TestP1SolveTerminates: fresh variables may be among those beyond 2^31 - 1.
func TestP1SolveTerminates(t *testing.T) {
	places := []int{0, math.MaxInt32, math.MaxInt32 + 1, math.MaxInt32 + 2, math.MaxInt32 + 3}
	differences := 0
	for seed := range int64(300) {
		r := rand.New(rand.NewSource(seed))
		var rs []api.Rel
		for range 1 + r.Intn(3) {
			a := api.Rel{T: sumOf(r.Int63n(41) - 20), Eq: true}
			for range 3 {
				a.T.Parts = append(a.T.Parts, part(r.Int63n(81)-40, places[r.Intn(len(places))]))
			}
			rs = append(rs, a)
		}
		expectText(t, "Solve of "+relTexts(rs), shown(elim.Solve(rs, 0)), shown(byRules(rs, 0, &differences)))
	}
}

// TestP6_2LongNumbers solves an equation of two numbers of the Fibonacci sequence,
// for which the coefficients decrease most slowly.
func TestP6_2LongNumbers(t *testing.T) {
	a, b := number(1), number(1)
	for range 700 {
		a, b = b, zint.Add(a, b)
	}
	k := zint.Mul(a, huge())
	rs := []api.Rel{{T: api.Term{Parts: []api.Part{{V: 0, C: a}, {V: 1, C: zint.Neg(b)}}, K: zint.Add(k, number(1))}, Eq: true}}
	s := elim.Solve(rs, 0)
	if !s.OK || len(s.Rest) != 0 || s.Next-s.First < 100 {
		t.Fatalf("Solve: %v, %d relations, %d to %d", s.OK, len(s.Rest), s.First, s.Next)
	}
	for _, last := range []api.Int{number(0), number(-5), huge()} {
		vals := append(make([]api.Int, s.Next-1), last)
		back := elim.Back(s.Swaps, vals)
		if !hold(rs, back) {
			t.Errorf("Back of %s does not hold", zint.Text(last))
		}
		forth, ok := elim.Forth(s.Swaps, back, s.First)
		if !ok || len(forth) != s.Next || zint.Cmp(forth[s.Next-1], last) != 0 {
			t.Errorf("Forth of Back of %s: %v", zint.Text(last), ok)
		}
	}
}

func TestP6_2RestHasNoEquation(t *testing.T) {
	for _, x := range samples() {
		s := elim.Solve(x.rs, 0)
		tidy, ok := rel.Tidy(s.Rest)
		expectText(t, "Tidy of Rest", relTexts(tidy), relTexts(s.Rest))
		for _, r := range s.Rest {
			ok = ok && !r.Eq
		}
		if !ok {
			t.Errorf("Solve of %s: Rest is %s", relTexts(x.rs), relTexts(s.Rest))
		}
	}
}

// TestP6_2SameWhereBack: the relations hold at Back of values exactly if Rest holds
// at the values.
func TestP6_2SameWhereBack(t *testing.T) {
	r := rand.New(rand.NewSource(5))
	held, failed := 0, 0
	for _, x := range samples() {
		s := elim.Solve(x.rs, 0)
		for range 60 {
			var vals []api.Int
			for range r.Intn(s.Next + 3) {
				vals = append(vals, number(r.Int63n(13)-6))
			}
			back := elim.Back(s.Swaps, vals)
			holds := hold(s.Rest, vals)
			if s.OK && hold(x.rs, back) != holds {
				t.Errorf("Solve of %s: %s: Rest holds at %s: %v, not so at %s", relTexts(x.rs), shown(s), valTexts(vals), holds, valTexts(back))
			}
			if s.OK && holds {
				held++
			} else {
				failed++
			}
		}
	}
	if held < 10000 || failed < 10000 {
		t.Errorf("Rest holds %d times, and not %d times", held, failed)
	}
}

// TestP6_3RestHoldsAtForth visits the points of a box.
func TestP6_3RestHoldsAtForth(t *testing.T) {
	boxes := [][][]api.Int{nil, points(1, 40), points(2, 12), points(3, 4)}
	held := 0
	for _, x := range samples() {
		s := elim.Solve(x.rs, 0)
		for _, vals := range boxes[x.variables] {
			if !hold(x.rs, vals) {
				continue
			}
			held++
			forth, ok := elim.Forth(s.Swaps, vals, s.First)
			if !s.OK || !ok || len(forth) != s.Next || !hold(s.Rest, forth) {
				t.Errorf("Solve of %s: %s: Forth of %s is %s, %v", relTexts(x.rs), shown(s), valTexts(vals), valTexts(forth), ok)
			}
			if back := elim.Back(s.Swaps, forth); valTexts(back) != valTexts(forth) {
				t.Errorf("Back of %s is %s", valTexts(forth), valTexts(back))
			}
		}
	}
	if held < 5000 {
		t.Errorf("relations hold at %d points", held)
	}
}

// TestP6_3OfManyEquations: the relations hold at a point that is known, so that
// they are never refused.
func TestP6_3OfManyEquations(t *testing.T) {
	r := rand.New(rand.NewSource(6))
	for range 200 {
		point := numbers(r.Int63n(101)-50, r.Int63n(101)-50, r.Int63n(101)-50, r.Int63n(101)-50, r.Int63n(101)-50)
		var rs []api.Rel
		for range 1 + r.Intn(5) {
			a := random(r, len(point), 0, 50)
			a.T.K = number(0)
			a.T.K, a.Eq = zint.Neg(term.Value(a.T, point)), r.Intn(4) > 0
			rs = append(rs, a)
		}
		s := elim.Solve(rs, 0)
		forth, ok := elim.Forth(s.Swaps, point, s.First)
		if !s.OK || !ok || !hold(s.Rest, forth) {
			t.Errorf("Solve of %s: %v, %v", relTexts(rs), s.OK, ok)
		}
	}
}
