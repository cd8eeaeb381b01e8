package shadow_test

import (
	"math/rand"
	"strings"
	"testing"

	"plumbline/api"
	"plumbline/rel"
	"plumbline/term"
	"plumbline/zint"
)

var names = []string{"x", "y", "z"}

func number(n int64) api.Int { return zint.Of(n) }

func numbers(ns ...int64) []api.Int {
	var all []api.Int
	for _, n := range ns {
		all = append(all, number(n))
	}
	return all
}

func part(c int64, v int) api.Part { return api.Part{V: v, C: number(c)} }

func sumOf(k int64, parts ...api.Part) api.Term { return api.Term{Parts: parts, K: number(k)} }

// of is k plus the coefficients times variables 0, 1 and so on.
func of(k int64, coefficients ...int64) api.Term {
	t := sumOf(k)
	for v, c := range coefficients {
		t.Parts = append(t.Parts, part(c, v))
	}
	return t
}

func zero(k int64, coefficients ...int64) api.Rel {
	return api.Rel{T: of(k, coefficients...), Eq: true}
}

func least(k int64, coefficients ...int64) api.Rel { return api.Rel{T: of(k, coefficients...)} }

// odd is x - 2y + 3, not written as a plain term.
func odd() api.Term {
	return api.Term{
		Parts: []api.Part{part(7, -1), part(-2, 1), part(5, 2), part(0, 4), part(1, 0), part(-5, 2)},
		K:     api.Int{Abs: api.Nat{3, 0, 0}},
	}
}

func texts(rs []api.Rel) string {
	var all []string
	for _, r := range rs {
		all = append(all, rel.Text(r, names))
	}
	return strings.Join(all, ", ")
}

func listTexts(lists [][]api.Rel) string {
	var all []string
	for _, list := range lists {
		all = append(all, texts(list))
	}
	return strings.Join(all, "; ")
}

func expectText(t *testing.T, what, got, want string) {
	t.Helper()
	if got != want {
		t.Errorf("%s:\n got %s\nwant %s", what, got, want)
	}
}

// expectPlain reports terms that are not plain.
func expectPlain(t *testing.T, what string, rs []api.Rel) {
	t.Helper()
	for _, r := range rs {
		last := -1
		ns := []api.Int{r.T.K}
		for _, p := range r.T.Parts {
			if p.V <= last || zint.Sign(p.C) == 0 {
				t.Errorf("%s: %v is not plain", what, r.T)
			}
			last, ns = p.V, append(ns, p.C)
		}
		for _, n := range ns {
			if size := len(n.Abs); size == 0 && n.Neg || size > 0 && n.Abs[size-1] == 0 {
				t.Errorf("%s: %v does not have the form of results", what, n)
			}
		}
	}
}

func withoutEq(rs []api.Rel) []api.Rel {
	var all []api.Rel
	for _, r := range rs {
		all = append(all, api.Rel{T: r.T})
	}
	return all
}

// hold reports whether all relations hold.
func hold(rs []api.Rel, vals []api.Int) bool {
	for _, r := range rs {
		sign := zint.Sign(term.Value(r.T, vals))
		if sign < 0 || sign > 0 && r.Eq {
			return false
		}
	}
	return true
}

// points are all values of two variables between -most and most.
func points(most int64) [][]api.Int {
	var all [][]api.Int
	for x := -most; x <= most; x++ {
		for y := -most; y <= most; y++ {
			all = append(all, numbers(x, y))
		}
	}
	return all
}

// samples are random lists of relations of so many variables, with coefficients of
// different sizes.
func samples(count, variables int) [][]api.Rel {
	r := rand.New(rand.NewSource(1))
	all := [][]api.Rel{nil, {{T: odd()}, {T: odd(), Eq: true}}, {least(3)}, {zero(0), least(-1, 0, 1)}}
	for i := range count {
		var rs []api.Rel
		most := int64(1 + i%5)
		for range r.Intn(6) {
			a := api.Rel{T: sumOf(r.Int63n(17) - 8), Eq: r.Intn(6) == 0}
			for v := range variables {
				a.T.Parts = append(a.T.Parts, part(r.Int63n(2*most+1)-most, v))
			}
			rs = append(rs, a)
		}
		all = append(all, rs)
	}
	return append(all, narrow(r, count/3)...)
}

// narrow are random pairs of a lower and an upper bound of x, between which there
// are few values, some with a further relation.
func narrow(r *rand.Rand, count int) [][]api.Rel {
	var all [][]api.Rel
	for range count {
		a, b, slope, k := 2+r.Int63n(6), 2+r.Int63n(6), r.Int63n(5)-2, r.Int63n(5)-2
		low := least(-a*k+r.Int63n(a), a, -a*slope)
		high := least(b*k+r.Int63n(b), -b, b*slope)
		further := least(r.Int63n(9)-4, r.Int63n(7)-3, r.Int63n(7)-3)
		all = append(all, [][]api.Rel{{low, high}, {high, low}, {low, further, high}}[r.Intn(3)])
	}
	return all
}
