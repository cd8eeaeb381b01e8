package elim_test

import (
	"fmt"
	"math/rand"
	"strings"
	"testing"

	"plumbline/api"
	"plumbline/elim"
	"plumbline/rel"
	"plumbline/term"
	"plumbline/zint"
)

var names = []string{"x", "y"}

func number(n int64) api.Int { return zint.Of(n) }

func numbers(ns ...int64) []api.Int {
	var all []api.Int
	for _, n := range ns {
		all = append(all, number(n))
	}
	return all
}

// huge is -(2^95 + 6), long is 6 with zero limbs at the end.
func huge() api.Int { return api.Int{Neg: true, Abs: api.Nat{6, 0, 1 << 31}} }

func long() api.Int { return api.Int{Abs: api.Nat{6, 0, 0}} }

func part(c int64, v int) api.Part { return api.Part{V: v, C: number(c)} }

func sumOf(k int64, parts ...api.Part) api.Term { return api.Term{Parts: parts, K: number(k)} }

// of is k plus the coefficients times variables 0, 1 and so on.
func of(k int64, coefficients ...int64) api.Term {
	t := sumOf(k)
	for v, c := range coefficients {
		t.Parts = append(t.Parts, part(c, v))
	}
	return t
}

func zero(k int64, coefficients ...int64) api.Rel {
	return api.Rel{T: of(k, coefficients...), Eq: true}
}

func least(k int64, coefficients ...int64) api.Rel { return api.Rel{T: of(k, coefficients...)} }

func relTexts(rs []api.Rel) string {
	var all []string
	for _, r := range rs {
		all = append(all, rel.Text(r, names))
	}
	return strings.Join(all, ", ")
}

func swapTexts(swaps []elim.Swap) string {
	var all []string
	for _, s := range swaps {
		all = append(all, term.Name(s.V, names)+" := "+term.Text(s.T, names))
	}
	return strings.Join(all, ", ")
}

func valTexts(vals []api.Int) string {
	var all []string
	for _, val := range vals {
		all = append(all, zint.Text(val))
	}
	return strings.Join(all, " ")
}

// shown tells all of a result.
func shown(s elim.Solved) string {
	return fmt.Sprintf("%v: %s; %s; %d to %d", s.OK, relTexts(s.Rest), swapTexts(s.Swaps), s.First, s.Next)
}

func expectText(t *testing.T, what, got, want string) {
	t.Helper()
	if got != want {
		t.Errorf("%s:\n got %s\nwant %s", what, got, want)
	}
}

// hold reports whether all relations hold.
func hold(rs []api.Rel, vals []api.Int) bool {
	for _, r := range rs {
		sign := zint.Sign(term.Value(r.T, vals))
		if sign < 0 || sign > 0 && r.Eq {
			return false
		}
	}
	return true
}

// points are all values of the given number of variables between -most and most.
func points(variables int, most int64) [][]api.Int {
	all := [][]api.Int{nil}
	for range variables {
		var longer [][]api.Int
		for _, p := range all {
			for n := -most; n <= most; n++ {
				longer = append(longer, append(append([]api.Int(nil), p...), number(n)))
			}
		}
		all = longer
	}
	return all
}

// a sample is a list of relations of so many variables.
type sample struct {
	rs        []api.Rel
	variables int
}

// samples are random lists of relations, with equations of small and of greater
// coefficients, and with inequalities that are equations together.
func samples() []sample {
	r := rand.New(rand.NewSource(1))
	var all []sample
	for i := range 1500 {
		variables := 1 + i%3
		var rs []api.Rel
		for range 1 + r.Intn(4) {
			a := random(r, variables, 0, []int64{1, 3, 7, 30}[r.Intn(4)])
			a.Eq = r.Intn(5) < 3
			rs = append(rs, a)
			if !a.Eq && r.Intn(3) == 0 {
				rs = append(rs, rel.Least(term.Neg(a.T)))
			}
		}
		all = append(all, sample{rs, variables})
	}
	return append(all, withoutUnits(r)...)
}

// withoutUnits are random pairs of equations without a coefficient 1 or -1, most of
// which need fresh variables.
func withoutUnits(r *rand.Rand) []sample {
	var all []sample
	for range 300 {
		a, b := random(r, 3, 2, 6), random(r, 3, 2, 6)
		a.Eq, b.Eq = true, true
		all = append(all, sample{[]api.Rel{a, b, random(r, 3, 0, 3)}, 3})
	}
	return all
}

// random is an inequality with coefficients whose absolute values are from least to
// most.
func random(r *rand.Rand, variables int, least, most int64) api.Rel {
	a := api.Rel{T: sumOf(r.Int63n(2*most+1) - most)}
	for v := range variables {
		c := least + r.Int63n(most-least+1)
		a.T.Parts = append(a.T.Parts, part(c*(1-2*r.Int63n(2)), v))
	}
	return a
}
