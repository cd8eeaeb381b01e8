package logic_test

import (
	"math"
	"testing"

	"plumbline/api"
	"plumbline/logic"
	"plumbline/rel"
	"plumbline/term"
)

// lists are those of a flat formula, before they are tidied.
func lists(f api.Form) [][]api.Rel {
	switch f.Kind {
	case api.True:
		return [][]api.Rel{nil}
	case api.Atom:
		return [][]api.Rel{{f.R}}
	case api.Or:
		var all [][]api.Rel
		for _, kid := range f.Kids {
			all = append(all, lists(kid)...)
		}
		return all
	case api.And:
		all := [][]api.Rel{nil}
		for _, kid := range f.Kids {
			var longer [][]api.Rel
			for _, list := range all {
				for _, more := range lists(kid) {
					longer = append(longer, append(append([]api.Rel(nil), list...), more...))
				}
			}
			all = longer
		}
		return all
	}
	return nil
}

func tidied(all [][]api.Rel) [][]api.Rel {
	var r [][]api.Rel
	for _, list := range all {
		if tidy, ok := rel.Tidy(list); ok {
			r = append(r, tidy)
		}
	}
	return r
}

func expectCubes(t *testing.T, f api.Form, most int, want [][]api.Rel) {
	t.Helper()
	got, e := logic.Cubes(f, most)
	if e != api.OK || shown(got) != shown(want) {
		t.Errorf("Cubes(%s, %d) = %v, %d, want %v", logic.Text(f, names), most, got, e, want)
	}
}

func expectMany(t *testing.T, f api.Form, most int) {
	t.Helper()
	if got, e := logic.Cubes(f, most); e != api.ErrMany || len(got) != 0 {
		t.Errorf("Cubes(%.200s, %d) = %v, %d, want ErrMany", logic.Text(f, names), most, got, e)
	}
}

func TestP5_1Cubes(t *testing.T) {
	a, b, c, d := least(0, 1), least(-1, 0, 1), zero(2, 1, 1), least(3, 2, 1)
	one := func(rs ...api.Form) []api.Rel {
		var list []api.Rel
		for _, r := range rs {
			list = append(list, r.R)
		}
		return list
	}
	for _, x := range []struct {
		f    api.Form
		want [][]api.Rel
	}{
		{yes(), [][]api.Rel{nil}}, {no(), nil}, {of(9), nil}, {of(api.Not), nil}, {of(api.And), [][]api.Rel{nil}}, {of(api.Or), nil},
		{a, [][]api.Rel{one(a)}}, {least(-6, 4), [][]api.Rel{one(least(-2, 1))}}, {zero(-6, 4), nil}, {least(3), [][]api.Rel{nil}},
		{of(api.Not, a), [][]api.Rel{one(least(-1, -1))}},
		{of(api.Not, c), [][]api.Rel{one(least(1, 1, 1)), one(least(-3, -1, -1))}},
		{of(api.And, b, a), [][]api.Rel{one(a, b)}},
		{of(api.Or, b, a), [][]api.Rel{one(b), one(a)}},
		{of(api.Or, a, a), [][]api.Rel{one(a), one(a)}},
		{of(api.And, of(api.Or, a, b), c), [][]api.Rel{one(a, c), one(c, b)}},
		{of(api.And, of(api.Or, a, b), of(api.Or, d, c)), [][]api.Rel{one(a, d), one(a, c), one(d, b), one(c, b)}},
		{of(api.And, of(api.Or, b, of(api.And, a, d)), of(api.Or, c, d)), [][]api.Rel{one(c, b), one(d, b), one(a, c, d), one(a, d)}},
		{of(api.And, a, of(api.Or, least(-1, -1), b, least(0, -1))), [][]api.Rel{one(a, b), one(zero(0, 1))}},
		{of(api.And, a, least(-1, -1)), nil},
		{of(api.And, of(api.Or, a, yes()), b), [][]api.Rel{one(b)}},
	} {
		var want [][]api.Rel
		for _, list := range x.want {
			tidy, ok := rel.Tidy(list)
			if !ok {
				t.Fatalf("%v cannot be a result", list)
			}
			want = append(want, tidy)
		}
		expectCubes(t, x.f, api.MaxCubes, want)
	}
}

func TestP5_1CubesByRules(t *testing.T) {
	for _, f := range samples() {
		all := lists(logic.Flat(f))
		expectCubes(t, f, len(all), tidied(all))
		expectCubes(t, f, math.MaxInt, tidied(all))
		if len(all) > 0 {
			expectMany(t, f, len(all)-1)
			expectMany(t, f, 0)
			expectMany(t, f, -1)
			expectMany(t, f, math.MinInt)
		} else {
			expectCubes(t, f, 0, nil)
			expectCubes(t, f, -1, nil)
			expectCubes(t, f, math.MinInt, nil)
		}
	}
}

// ors is And of n times Or of Atoms of variables of its own.
func ors(n, each int) api.Form {
	f := of(api.And)
	for i := range n {
		or := of(api.Or)
		for k := range each {
			or.Kids = append(or.Kids, logic.Of(rel.Least(term.Sub(term.Var(i), term.Number(number(int64(k)))))))
		}
		f.Kids = append(f.Kids, or)
	}
	return f
}

func TestP5_1CubesBound(t *testing.T) {
	for _, x := range []struct {
		f api.Form
		n int
	}{
		{ors(3, 4), 64}, {ors(12, 2), 4096}, {of(api.Or, ors(2, 3), ors(3, 2), least(0, 1)), 18}, {wide(50, api.Or), 50},
		{of(api.And, ors(1, 3), least(0, 1), of(api.Or, ors(2, 2), least(0, 1))), 15},
	} {
		if got, e := logic.Cubes(x.f, x.n); e != api.OK || len(got) != x.n {
			t.Errorf("Cubes with the bound %d: %d, %d", x.n, len(got), e)
		}
		expectMany(t, x.f, x.n-1)
	}
	// Lists that are omitted later count.
	a, notA := least(0, 1), least(-1, -1)
	never := of(api.And, a, of(api.Or, notA, notA), of(api.Or, notA, notA))
	expectCubes(t, never, 4, nil)
	expectMany(t, never, 3)
	never = of(api.And, of(api.Or, a, a), of(api.Or, a, a), notA)
	expectCubes(t, never, 4, nil)
	expectMany(t, never, 3)
	// A part that is not in the flat formula does not count.
	expectCubes(t, of(api.And, ors(12, 2), no()), 0, nil)
	expectCubes(t, of(api.Or, ors(12, 2), yes()), 1, [][]api.Rel{nil})
	expectMany(t, of(api.Or, ors(12, 2), yes()), 0)
	expectCubes(t, of(api.And, of(api.Or, zero(1, 2), a), yes()), 1, [][]api.Rel{{a.R}})
}

func TestP5_1CubesOfManyLists(t *testing.T) {
	for _, n := range []int{62, 63, 64, 65, 128, 1000} {
		expectMany(t, ors(n, 2), math.MaxInt32)
		expectMany(t, ors(n, 2), api.MaxCubes)
	}
	for _, n := range []int{63, 64, 65, 128, 1000} {
		expectMany(t, ors(n, 2), math.MaxInt)
	}
	expectMany(t, of(api.Or, ors(62, 2), ors(62, 2)), math.MaxInt)
	expectMany(t, of(api.Or, ors(31, 4), ors(31, 4)), math.MaxInt)
}

// TestP5_1CubesOmittedEarly: lists that have relations in common which cannot hold together
// are not made one by one: here, these would be 2^40.
func TestP5_1CubesOmittedEarly(t *testing.T) {
	low := of(api.Or, least(-1, -1), least(-1, -2)) // both are below 0
	f := of(api.And, least(0, 1))
	for range 40 {
		f.Kids = append(f.Kids, low)
	}
	expectCubes(t, f, math.MaxInt, nil)
	apart := of(api.Or, of(api.And, least(0, 1), least(1, 1)), f, of(api.And, least(1, 1), low))
	expectCubes(t, apart, math.MaxInt, tidied(lists(logic.Flat(of(api.Or, apart.Kids[0], apart.Kids[2])))))
}

func TestP5_1CubesOfDeepAndWide(t *testing.T) {
	const n = 20000
	for _, x := range []struct {
		f            api.Form
		count, first int
	}{
		{wide(n, api.And), 1, n},
		{wide(n, api.Or), n, 1},
		{of(api.Not, wide(n, api.Or)), 1, n},
		{chain(1<<16, api.Not), 1, 1},
		{chain(1<<16, api.And), 1, 2},
		{chain(400, api.And, api.Or), 201, 1},
	} {
		got, e := logic.Cubes(x.f, math.MaxInt)
		if e != api.OK || len(got) != x.count || len(got[0]) != x.first {
			t.Errorf("Cubes: %d, %d", len(got), e)
		}
		expectMany(t, x.f, x.count-1)
	}
}

func TestP5_2CubesPreserve(t *testing.T) {
	for _, f := range samples() {
		cubes, e := logic.Cubes(f, math.MaxInt)
		if e != api.OK {
			t.Errorf("Cubes of %s: %d", logic.Text(f, names), e)
		}
		any := of(api.Or)
		for _, list := range cubes {
			all := of(api.And)
			for _, r := range list {
				all.Kids = append(all.Kids, api.Form{Kind: api.Atom, R: r})
			}
			any.Kids = append(any.Kids, all)
		}
		expectSame(t, "Cubes", f, any)
	}
}
