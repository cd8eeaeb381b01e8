package decide_test

import (
	"fmt"
	"math"
	"math/rand"
	"strings"
	"testing"

	"plumbline/api"
	"plumbline/logic"
	"plumbline/omega"
	"plumbline/rel"
	"plumbline/term"
	"plumbline/zint"
)

var names = []string{"x", "y", "z"}

func number(n int64) api.Int { return zint.Of(n) }

func part(c int64, v int) api.Part { return api.Part{V: v, C: number(c)} }

func sumOf(k int64, parts ...api.Part) api.Term { return api.Term{Parts: parts, K: number(k)} }

// sum is k plus the coefficients times variables 0, 1 and so on.
func sum(k int64, coefficients ...int64) api.Term {
	t := sumOf(k)
	for v, c := range coefficients {
		if c != 0 {
			t.Parts = append(t.Parts, part(c, v))
		}
	}
	return t
}

func leastRel(k int64, coefficients ...int64) api.Rel { return api.Rel{T: sum(k, coefficients...)} }

func zeroRel(k int64, coefficients ...int64) api.Rel {
	return api.Rel{T: sum(k, coefficients...), Eq: true}
}

func atom(r api.Rel) api.Form { return api.Form{Kind: api.Atom, R: r} }

func least(k int64, coefficients ...int64) api.Form { return atom(leastRel(k, coefficients...)) }

func zero(k int64, coefficients ...int64) api.Form { return atom(zeroRel(k, coefficients...)) }

func of(kind int, kids ...api.Form) api.Form { return api.Form{Kind: kind, Kids: kids} }

func and(kids ...api.Form) api.Form { return of(api.And, kids...) }

func or(kids ...api.Form) api.Form { return of(api.Or, kids...) }

func not(kid api.Form) api.Form { return of(api.Not, kid) }

func yes() api.Form { return of(api.True) }

func no() api.Form { return of(api.False) }

// list is the conjunction of rs.
func list(rs ...api.Rel) api.Form {
	f := and()
	for _, r := range rs {
		f.Kids = append(f.Kids, atom(r))
	}
	return f
}

// many is an Or of n equal formulas: it has n times as many lists.
func many(n int, f api.Form) api.Form {
	r := or()
	for range n {
		r.Kids = append(r.Kids, f)
	}
	return r
}

// absurd has one list, which is omitted.
func absurd() api.Form { return and(least(-1, 1), least(0, -1)) }

// hollow states that x > y >= z >= x. It has one list, which is not omitted but has
// no solution. Layer 8 consumes 4 for it and 3 for its shadow.
func hollow() api.Form { return list(hollowRels()...) }

func hollowRels() []api.Rel {
	return []api.Rel{leastRel(-1, 1, -1), leastRel(0, 0, 1, -1), leastRel(0, -1, 0, 1)}
}

// endless states that 4098y + 5z is from 1 to 6, which layer 8 does not know for any
// fuel: it needs more than 4096 pieces.
func endless() api.Form { return list(endlessRels()...) }

func endlessRels() []api.Rel {
	return []api.Rel{leastRel(-1, 0, 4098, 5), leastRel(6, 0, -4098, -5)}
}

// unknownKinds are kinds that are none.
func unknownKinds() []int { return []int{-1, 6, 12, math.MaxInt, math.MinInt} }

func text(f api.Form) string { return logic.Text(f, names) }

func texts(rs []api.Rel) string {
	var all []string
	for _, r := range rs {
		all = append(all, rel.Text(r, names))
	}
	return strings.Join(all, ", ")
}

func valTexts(vals []api.Int) string {
	var all []string
	for _, val := range vals {
		all = append(all, zint.Text(val))
	}
	return strings.Join(all, " ")
}

// shown tells all of an answer, but for the fuel that is left, from which it tells
// the fuel that was consumed.
func shown(a omega.Answer, fuel int) string {
	switch a.State {
	case omega.Sat:
		return fmt.Sprintf("Sat at %s after %d", valTexts(a.Vals), fuel-a.Left)
	case omega.Unsat:
		return fmt.Sprintf("Unsat%s after %d", valTexts(a.Vals), fuel-a.Left)
	case omega.Fuel:
		return fmt.Sprintf("Fuel%s, %d left", valTexts(a.Vals), a.Left)
	}
	return fmt.Sprintf("state %d", a.State)
}

const noFuel = "Fuel, 0 left"

func expectText(t *testing.T, what, got, want string) {
	t.Helper()
	if got != want {
		t.Errorf("%s:\n got %s\nwant %s", what, got, want)
	}
}

// said is an answer and whether it is known.
func said(yes, known bool) string {
	switch {
	case yes && known:
		return "yes"
	case known:
		return "no"
	case yes:
		return "yes, but not known"
	}
	return "not known"
}

// holds is the document's definition of layer 5, written again.
func holds(f api.Form, vals []api.Int) bool {
	switch {
	case f.Kind == api.Atom:
		return relHolds(f.R, vals)
	case f.Kind == api.Not && len(f.Kids) > 0:
		return !holds(f.Kids[0], vals)
	case f.Kind == api.And || f.Kind == api.Or:
		for _, kid := range f.Kids {
			if holds(kid, vals) == (f.Kind == api.Or) {
				return f.Kind == api.Or
			}
		}
		return f.Kind == api.And
	}
	return f.Kind == api.True
}

func relHolds(r api.Rel, vals []api.Int) bool {
	sign := zint.Sign(term.Value(r.T, vals))
	return sign == 0 || sign > 0 && !r.Eq
}

// points are all values of two variables between -n and n.
func points(n int64) [][]api.Int {
	var all [][]api.Int
	for x := -n; x <= n; x++ {
		for y := -n; y <= n; y++ {
			all = append(all, []api.Int{number(x), number(y)})
		}
	}
	return all
}

// most is the greatest value of a variable in a box.
const most = 4

// box states that two variables are from -most to most.
func box() api.Form {
	return and(least(most, 1), least(most, -1), least(most, 0, 1), least(most, 0, -1))
}

// boxed holds nowhere but in the box.
func boxed(f api.Form) api.Form { return and(box(), f) }

// places are the values in the box at which f holds.
func places(f api.Form) map[string]bool {
	all := map[string]bool{}
	for _, vals := range points(most) {
		if holds(f, vals) {
			all[valTexts(vals)] = true
		}
	}
	return all
}

// random is a formula of two variables in which also stand kids that do not count.
func random(r *rand.Rand, depth int) api.Form {
	f := api.Form{Kind: api.Atom}
	switch n := r.Intn(20); {
	case depth > 0 && n >= 4:
		f.Kind = api.Not + n%3
	case n == 0:
		f.Kind = unknownKinds()[r.Intn(len(unknownKinds()))]
	case n <= 2:
		f.Kind = r.Intn(6)
	}
	f.R = api.Rel{T: sum(r.Int63n(13)-6, r.Int63n(7)-3, r.Int63n(7)-3), Eq: r.Intn(3) == 0}
	if depth > 0 {
		for range []int{0, 1, 2, 2, 2, 3, 3, 3}[r.Intn(8)] {
			f.Kids = append(f.Kids, random(r, depth-1))
		}
	}
	return f
}

// samples are formulas of all kinds, without kids, with some, and nested.
func samples(count int) []api.Form {
	all := []api.Form{
		least(-6, 4), zero(-6, 4), zero(-8, -4), least(3), least(-3), zero(0), zero(5), not(zero(-6, 4)), not(zero(4, -2)),
		absurd(), hollow(), many(3, absurd()), or(absurd(), hollow(), least(-5, 0, 1)), or(hollow(), hollow()),
	}
	for kind := -1; kind <= 6; kind++ {
		all = append(all, of(kind), of(kind, least(0, 1)), of(kind, least(0, 1), zero(1, 0, 1)), of(kind, of(kind, least(0, 1))))
	}
	r := rand.New(rand.NewSource(1))
	for i := range count {
		all = append(all, random(r, 1+i%4))
	}
	return all
}

// lists are samples of relations of two variables, some of which follow from others.
func lists(count int) [][]api.Rel {
	r := rand.New(rand.NewSource(2))
	var all [][]api.Rel
	for i := range count {
		var rs []api.Rel
		for range r.Intn(7) {
			rs = append(rs, api.Rel{T: sum(r.Int63n(19)-4, r.Int63n(7)-3, r.Int63n(7)-3), Eq: r.Intn(9) == 0})
		}
		if n := len(rs); i%3 == 0 && n > 1 { // the sum of two, and what is weaker than it
			both := term.Add(rs[0].T, rs[n-1].T)
			rs = append(rs, api.Rel{T: term.Add(both, sumOf(r.Int63n(3)))})
		}
		all = append(all, rs)
	}
	return all
}
