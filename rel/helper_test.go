package rel_test

import (
	"math"
	"math/rand"
	"reflect"
	"testing"

	"plumbline/api"
	"plumbline/rel"
	"plumbline/term"
	"plumbline/zint"
)

func number(n int64) api.Int { return zint.Of(n) }

func part(c int64, v int) api.Part { return api.Part{V: v, C: number(c)} }

func sumOf(k int64, parts ...api.Part) api.Term { return api.Term{Parts: parts, K: number(k)} }

func zero(k int64, parts ...api.Part) api.Rel { return api.Rel{T: sumOf(k, parts...), Eq: true} }

func least(k int64, parts ...api.Part) api.Rel { return api.Rel{T: sumOf(k, parts...)} }

// oddZeros are numbers 0 that are not in the form of results.
func oddZeros() []api.Int {
	return []api.Int{{Neg: true}, {Abs: api.Nat{}}, {Abs: api.Nat{0}}, {Neg: true, Abs: api.Nat{0, 0}}}
}

// edges are terms with what a plain term does not have, and terms that are plain.
func edges() []api.Term {
	huge := api.Int{Neg: true, Abs: api.Nat{6, 0, 1 << 31}}
	long := api.Int{Abs: api.Nat{6, 0, 0}}
	all := []api.Term{
		{}, {Parts: []api.Part{}}, sumOf(5), sumOf(-1), sumOf(1), {K: huge}, {K: long},
		sumOf(0, part(1, 0)), sumOf(2, part(-1, 0)), sumOf(-6, part(4, 0)), sumOf(-7, part(-4, 0), part(-6, 1)),
		sumOf(8, part(-4, 0), part(6, 1)), sumOf(0, part(6, 1), part(-4, 0)),
		sumOf(0, part(1, 0), part(2, 1), part(1, 0)), sumOf(1, part(2, 1), part(-2, 1)),
		sumOf(-1, part(2, 1), part(-2, 1)), sumOf(0, part(2, 1), part(-2, 1)),
		sumOf(3, part(5, -1)), sumOf(3, part(5, -1), part(2, 0), part(7, math.MinInt)), sumOf(0, part(0, 0)),
		sumOf(1, part(0, 2), part(-3, 3), part(0, 5)), sumOf(4, part(3, math.MaxInt), part(2, 0), part(1, math.MaxInt)),
		{Parts: []api.Part{{V: 1, C: huge}, {V: 0, C: long}, {V: 1, C: zint.Neg(huge)}}, K: long},
		{Parts: []api.Part{{V: 0, C: huge}, {V: 2, C: long}}, K: huge},
	}
	for _, n := range oddZeros() {
		all = append(all, api.Term{K: n}, api.Term{Parts: []api.Part{{V: 0, C: n}, part(-2, 1), {V: 2, C: n}}, K: n})
	}
	return all
}

// samples are relations of the edges and of random terms of two variables, all
// with and without Eq.
func samples() []api.Rel {
	r := rand.New(rand.NewSource(1))
	terms := edges()
	for range 60 {
		t := sumOf(r.Int63n(25) - 12)
		for range r.Intn(4) {
			t.Parts = append(t.Parts, part(r.Int63n(9)-4, r.Intn(3)-1))
		}
		terms = append(terms, t)
	}
	var all []api.Rel
	for _, t := range terms {
		all = append(all, api.Rel{T: t}, api.Rel{T: t, Eq: true})
	}
	return all
}

// points are all values of two variables between -n and n.
func points(n int64) [][]api.Int {
	var all [][]api.Int
	for x := -n; x <= n; x++ {
		for y := -n; y <= n; y++ {
			all = append(all, []api.Int{number(x), number(y)})
		}
	}
	return all
}

// hold reports whether all relations hold.
func hold(rs []api.Rel, vals []api.Int) bool {
	for _, r := range rs {
		sign := zint.Sign(term.Value(r.T, vals))
		if sign < 0 || sign > 0 && r.Eq {
			return false
		}
	}
	return true
}

// written is a relation as it is: what differs in any way is written differently.
func written(r api.Rel) api.Rel {
	return api.Rel{T: term.Plain(r.T), Eq: r.Eq}
}

// expect reports where a relation, whose term is to be plain, is not as wanted.
func expect(t *testing.T, what string, got, want api.Rel) {
	t.Helper()
	expectAll(t, what, []api.Rel{got}, []api.Rel{want})
}

func expectAll(t *testing.T, what string, got, want []api.Rel) {
	t.Helper()
	var plain []api.Rel
	for _, r := range want {
		plain = append(plain, written(r))
	}
	if len(got) != len(plain) || len(got) > 0 && !reflect.DeepEqual(got, plain) {
		t.Errorf("%s: got %s, want %s", what, texts(got), texts(plain))
	}
}

func texts(rs []api.Rel) string {
	all := ""
	for _, r := range rs {
		all += "[" + rel.Text(r, []string{"x", "y"}) + "]"
	}
	return all
}
