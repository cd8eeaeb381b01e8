package logic_test

import (
	"fmt"
	"math"
	"math/rand"
	"testing"

	"plumbline/api"
	"plumbline/logic"
	"plumbline/rel"
	"plumbline/term"
	"plumbline/zint"
)

var names = []string{"x", "y", "z"}

func number(n int64) api.Int { return zint.Of(n) }

// sum is k plus the coefficients times variables 0, 1 and so on.
func sum(k int64, coefficients ...int64) api.Term {
	t := api.Term{K: number(k)}
	for v, c := range coefficients {
		if c != 0 {
			t.Parts = append(t.Parts, api.Part{V: v, C: number(c)})
		}
	}
	return t
}

func least(k int64, coefficients ...int64) api.Form {
	return api.Form{Kind: api.Atom, R: api.Rel{T: sum(k, coefficients...)}}
}

func zero(k int64, coefficients ...int64) api.Form {
	return api.Form{Kind: api.Atom, R: api.Rel{T: sum(k, coefficients...), Eq: true}}
}

func of(kind int, kids ...api.Form) api.Form { return api.Form{Kind: kind, Kids: kids} }

func yes() api.Form { return of(api.True) }

func no() api.Form { return of(api.False) }

// unknown are kinds that are none.
func unknown() []int { return []int{-1, 6, 12, math.MaxInt, math.MinInt} }

// oddTerms are terms with what a plain term does not have.
func oddTerms() []api.Term {
	twice := sum(1, 1, 2)
	twice.Parts = append(twice.Parts, twice.Parts[0])
	return []api.Term{
		twice,
		{Parts: []api.Part{{V: 1, C: number(4)}, {V: 0, C: number(-2)}}, K: number(3)},
		{Parts: []api.Part{{V: -1, C: number(4)}, {V: 1, C: number(3)}, {V: 1, C: number(-3)}}, K: api.Int{Neg: true, Abs: api.Nat{0}}},
		{Parts: []api.Part{{V: 0, C: api.Int{Neg: true}}, {V: 1, C: api.Int{Abs: api.Nat{2, 0}}}}, K: api.Int{Neg: true, Abs: api.Nat{3, 0, 0}}},
	}
}

// random is a formula in which also stand kids and relations that do not count.
func random(r *rand.Rand, depth int) api.Form {
	f := api.Form{Kind: api.Atom}
	switch n := r.Intn(20); {
	case depth > 0 && n >= 5:
		f.Kind = api.Not + n%3
	case n == 0:
		f.Kind = unknown()[r.Intn(len(unknown()))]
	case n <= 2:
		f.Kind = r.Intn(6)
	}
	f.R = api.Rel{T: sum(r.Int63n(13)-6, r.Int63n(7)-3, r.Int63n(7)-3), Eq: r.Intn(2) == 0}
	if r.Intn(4) == 0 {
		f.R.T = oddTerms()[r.Intn(len(oddTerms()))]
	}
	if depth > 0 {
		for range []int{0, 1, 2, 2, 2, 3, 3, 3}[r.Intn(8)] {
			f.Kids = append(f.Kids, random(r, depth-1))
		}
	}
	return f
}

// samples are formulas of all kinds, without kids, with some, and nested.
func samples() []api.Form {
	all := []api.Form{
		least(-6, 4), zero(-6, 4), zero(-8, -4), least(3), least(-3), zero(0), zero(5), zero(1, 2),
		of(api.Not, zero(-6, 4)), of(api.Not, zero(4, -2)), of(api.Not, zero(0)), of(api.Not, least(-1)),
	}
	for kind := -1; kind <= 6; kind++ {
		all = append(all, of(kind), of(kind, least(0, 1)), of(kind, least(0, 1), zero(1, 0, 1)), of(kind, of(kind, of(kind, least(0, 1)))))
	}
	r := rand.New(rand.NewSource(1))
	for i := range 400 {
		all = append(all, random(r, 1+i%4))
	}
	return all
}

// points are all values of two variables between -n and n.
func points(n int64) [][]api.Int {
	var all [][]api.Int
	for x := -n; x <= n; x++ {
		for y := -n; y <= n; y++ {
			all = append(all, []api.Int{number(x), number(y)})
		}
	}
	return all
}

// holds is the document's definition, written again.
func holds(f api.Form, vals []api.Int) bool {
	switch {
	case f.Kind == api.Atom:
		sign := zint.Sign(term.Value(f.R.T, vals))
		return sign == 0 || sign == 1 && !f.R.Eq
	case f.Kind == api.Not && len(f.Kids) > 0:
		return !holds(f.Kids[0], vals)
	case f.Kind == api.And || f.Kind == api.Or:
		for _, kid := range f.Kids {
			if holds(kid, vals) == (f.Kind == api.Or) {
				return f.Kind == api.Or
			}
		}
		return f.Kind == api.And
	}
	return f.Kind == api.True
}

// counting are the kids that count.
func counting(f api.Form) []api.Form {
	switch {
	case f.Kind == api.And || f.Kind == api.Or:
		return f.Kids
	case f.Kind == api.Not && len(f.Kids) > 0:
		return f.Kids[:1]
	}
	return nil
}

// copied is a copy of f with what change makes of its relations.
func copied(f api.Form, change func(api.Rel) api.Rel) api.Form {
	r := of(f.Kind)
	if f.Kind < 0 || f.Kind > 5 {
		return no()
	}
	if f.Kind == api.Atom {
		r.R = change(f.R)
	}
	for _, kid := range counting(f) {
		r.Kids = append(r.Kids, copied(kid, change))
	}
	return r
}

func plain(r api.Rel) api.Rel {
	return api.Rel{T: term.Plain(r.T), Eq: r.Eq}
}

func plainCopy(f api.Form) api.Form { return copied(f, plain) }

// shown is the same for two values exactly if they are the same (a nil slice
// counts as an empty one).
func shown(v any) string { return fmt.Sprintf("%v", v) }

func expect(t *testing.T, what string, got, want api.Form) {
	t.Helper()
	if shown(got) != shown(want) {
		t.Errorf("%s: %s, want %s (as they are: %v, %v)", what, logic.Text(got, names), logic.Text(want, names), got, want)
	}
}

// expectSame reports where f and g hold at different values.
func expectSame(t *testing.T, what string, f, g api.Form) {
	t.Helper()
	for _, vals := range points(5) {
		if holds(f, vals) != holds(g, vals) {
			t.Errorf("%s of %s: %s differs at %v", what, logic.Text(f, names), logic.Text(g, names), vals)
			return
		}
	}
}

// chain is a formula of n levels, each of a kind in turn, with an Atom beside.
func chain(n int, kinds ...int) api.Form {
	f := least(0, 1)
	for i := range n {
		kind := kinds[i%len(kinds)]
		if kind == api.Not {
			f = of(kind, f)
		} else {
			f = of(kind, least(int64(i), 0, 1), f)
		}
	}
	return f
}

// wide is a formula of n different Atoms.
func wide(n, kind int) api.Form {
	f := of(kind)
	for i := range n {
		a := api.Rel{T: term.Add(term.Var(i), term.Number(number(1)))}
		f.Kids = append(f.Kids, api.Form{Kind: api.Atom, R: a})
	}
	return f
}

func tight(r api.Rel) api.Form {
	t, truth := rel.Tight(r)
	switch truth {
	case 1:
		return yes()
	case -1:
		return no()
	}
	return api.Form{Kind: api.Atom, R: t}
}
