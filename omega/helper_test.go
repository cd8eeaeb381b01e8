package omega_test

import (
	"fmt"
	"math/rand"
	"strings"
	"testing"

	"plumbline/api"
	"plumbline/omega"
	"plumbline/rel"
	"plumbline/term"
	"plumbline/zint"
)

var names = []string{"x", "y", "z"}

func number(n int64) api.Int { return zint.Of(n) }

func part(c int64, v int) api.Part { return api.Part{V: v, C: number(c)} }

func sumOf(k int64, parts ...api.Part) api.Term { return api.Term{Parts: parts, K: number(k)} }

// of is k plus the coefficients times variables 0, 1 and so on.
func of(k int64, coefficients ...int64) api.Term {
	t := sumOf(k)
	for v, c := range coefficients {
		t.Parts = append(t.Parts, part(c, v))
	}
	return t
}

func zero(k int64, coefficients ...int64) api.Rel {
	return api.Rel{T: of(k, coefficients...), Eq: true}
}

func least(k int64, coefficients ...int64) api.Rel { return api.Rel{T: of(k, coefficients...)} }

// within states that the variable is from low to high.
func within(v int, low, high int64) []api.Rel {
	return []api.Rel{{T: sumOf(-low, part(1, v))}, {T: sumOf(high, part(-1, v))}}
}

func texts(rs []api.Rel) string {
	var all []string
	for _, r := range rs {
		all = append(all, rel.Text(r, names))
	}
	return strings.Join(all, ", ")
}

func valTexts(vals []api.Int) string {
	var all []string
	for _, val := range vals {
		all = append(all, zint.Text(val))
	}
	return strings.Join(all, " ")
}

// shown tells all of an answer, but for the fuel that is left, from which it tells
// the fuel that was consumed.
func shown(a omega.Answer, fuel int) string {
	switch a.State {
	case omega.Sat:
		return fmt.Sprintf("Sat at %s after %d", valTexts(a.Vals), fuel-a.Left)
	case omega.Unsat:
		return fmt.Sprintf("Unsat%s after %d", valTexts(a.Vals), fuel-a.Left)
	case omega.Fuel:
		return fmt.Sprintf("Fuel%s, %d left", valTexts(a.Vals), a.Left)
	}
	return fmt.Sprintf("state %d", a.State)
}

const noFuel = "Fuel, 0 left"

func expectText(t *testing.T, what, got, want string) {
	t.Helper()
	if got != want {
		t.Errorf("%s:\n got %s\nwant %s", what, got, want)
	}
}

// expectForm reports values that do not have the form of results.
func expectForm(t *testing.T, what string, vals []api.Int) {
	t.Helper()
	for _, val := range vals {
		if n := len(val.Abs); n == 0 && val.Neg || n > 0 && val.Abs[n-1] == 0 {
			t.Errorf("%s: %v does not have the form of results", what, val)
		}
	}
}

// hold reports whether all relations hold.
func hold(rs []api.Rel, vals []api.Int) bool {
	for _, r := range rs {
		sign := zint.Sign(term.Value(r.T, vals))
		if sign < 0 || sign > 0 && r.Eq {
			return false
		}
	}
	return true
}

// holdSomewhere reports whether all relations hold at values of three variables
// between -most and most.
func holdSomewhere(rs []api.Rel, most int64) bool {
	for x := -most; x <= most; x++ {
		for y := -most; y <= most; y++ {
			for z := -most; z <= most; z++ {
				if hold(rs, []api.Int{number(x), number(y), number(z)}) {
					return true
				}
			}
		}
	}
	return false
}

// enough is fuel that is sufficient for almost all samples.
const enough = 20000

// samples are random lists of relations of three variables: with few and many
// relations, with equations, with coefficients of different sizes, and narrow ones.
func samples(count int) [][]api.Rel {
	r := rand.New(rand.NewSource(1))
	var all [][]api.Rel
	for i := range count {
		var rs []api.Rel
		most := []int64{2, 4, 9, 40}[i%4]
		for range r.Intn(6) {
			a := api.Rel{T: random(r, 3, most), Eq: r.Intn(8) == 0}
			rs = append(rs, a)
		}
		all = append(all, rs, narrow(r, 2+i%2))
	}
	return all
}

// narrow are relations that state that sums of variables are between numbers that
// are near to each other: there may be real solutions, but none that are integers.
func narrow(r *rand.Rand, variables int) []api.Rel {
	var rs []api.Rel
	for range 2 + r.Intn(2) {
		low := random(r, variables, 15)
		high := term.Sub(sumOf(r.Int63n(12)), low)
		rs = append(rs, api.Rel{T: low}, api.Rel{T: high})
	}
	return rs
}

func random(r *rand.Rand, variables int, most int64) api.Term {
	t := sumOf(r.Int63n(4*most+1) - 2*most)
	for v := range variables {
		t.Parts = append(t.Parts, part(r.Int63n(2*most+1)-most, v))
	}
	return t
}

// boxed are relations with limits for three variables.
func boxed(rs []api.Rel, most int64) []api.Rel {
	all := append([]api.Rel(nil), rs...)
	for v := range 3 {
		all = append(all, within(v, -most, most)...)
	}
	return all
}
