package kripke_test

import (
	"fmt"
	"math/rand"
	"slices"

	"plumbline/api"
	"plumbline/zint"
)

// This file says what the document says, word by word, for small numbers.

func small(n api.Int) int {
	abs := 0
	for i, limb := range n.Abs {
		abs += int(limb) << (32 * min(i, 1))
	}
	if n.Neg {
		return -abs
	}
	return abs
}

// point is a state of small numbers.
type point struct{ locs, vals []int }

func pointOf(x api.State) point {
	p := point{locs: x.Locs}
	for _, val := range x.Vals {
		p.vals = append(p.vals, small(val))
	}
	return p
}

// stateOf is the state of a point. Its numbers have other forms, with r.
func stateOf(r *rand.Rand, p point) api.State {
	x := api.State{Locs: slices.Clone(p.locs)}
	for _, val := range p.vals {
		x.Vals = append(x.Vals, odd(r, zint.Of(int64(val))))
	}
	return x
}

func (p point) same(q point) bool {
	return slices.Equal(p.locs, q.locs) && slices.Equal(p.vals, q.vals)
}

func (p point) String() string { return fmt.Sprint(p.locs, p.vals) }

func valueOf(t api.Term, vals []int) int {
	sum := small(t.K)
	for _, p := range t.Parts {
		if p.V >= 0 && p.V < len(vals) {
			sum += small(p.C) * vals[p.V]
		}
	}
	return sum
}

func truth(f api.Form, vals []int) bool {
	switch f.Kind {
	case api.True:
		return true
	case api.Atom:
		n := valueOf(f.R.T, vals)
		return n == 0 || n > 0 && !f.R.Eq
	case api.Not:
		return len(f.Kids) > 0 && !truth(f.Kids[0], vals)
	case api.And, api.Or:
		is := f.Kind == api.And
		for _, kid := range f.Kids {
			if truth(kid, vals) != is {
				return !is
			}
		}
		return is
	}
	return false
}

func fits(s api.Sys, x point) bool {
	if len(x.locs) != len(s.Procs) || len(x.vals) != len(s.Vars) {
		return false
	}
	for p := range s.Procs {
		if x.locs[p] < 0 || x.locs[p] >= len(s.Procs[p].Locs) {
			return false
		}
	}
	for v := range s.Vars {
		if v < len(s.Bounds) && s.Bounds[v].Is && (x.vals[v] < small(s.Bounds[v].Lo) || x.vals[v] > small(s.Bounds[v].Hi)) {
			return false
		}
	}
	return true
}

func initial(s api.Sys, x point) bool {
	if !fits(s, x) || !truth(s.Init, x.vals) {
		return false
	}
	for _, loc := range x.locs {
		if loc != 0 {
			return false
		}
	}
	return true
}

// assigned is the Move of a variable that counts, or false if it has none.
func assigned(a api.Act, v int) (api.Move, bool) {
	for _, m := range a.Moves {
		if m.V == v {
			return m, true
		}
	}
	return api.Move{}, false
}

// leads says whether an act leads from x to y.
func leads(s api.Sys, x point, act int, y point) bool {
	if !fits(s, x) || !fits(s, y) || act < 0 || act >= len(s.Acts) {
		return false
	}
	a := s.Acts[act]
	if a.Proc < 0 || a.Proc >= len(s.Procs) || x.locs[a.Proc] != a.From || !truth(a.Guard, x.vals) {
		return false
	}
	for p := range s.Procs {
		if p == a.Proc && y.locs[p] != a.To || p != a.Proc && y.locs[p] != x.locs[p] {
			return false
		}
	}
	for _, m := range a.Moves {
		if m.V < 0 || m.V >= len(s.Vars) {
			return false
		}
	}
	for v := range s.Vars {
		m, is := assigned(a, v)
		switch {
		case !is && y.vals[v] != x.vals[v]:
			return false
		case is && !m.Any && y.vals[v] != valueOf(m.T, x.vals):
			return false
		}
	}
	return true
}

// window are the states with values from -far to far, and some with locations that do
// not exist.
func window(s api.Sys, far int) []point {
	all := []point{{}}
	for _, p := range s.Procs {
		var longer []point
		for _, x := range all {
			for loc := -1; loc <= len(p.Locs); loc++ {
				longer = append(longer, point{locs: append(slices.Clone(x.locs), loc)})
			}
		}
		all = longer
	}
	for range s.Vars {
		var longer []point
		for _, x := range all {
			for val := -far; val <= far; val++ {
				longer = append(longer, point{x.locs, append(slices.Clone(x.vals), val)})
			}
		}
		all = longer
	}
	return all
}

// someOf is one of the states of a window with small values: mostly one that fits.
func someOf(r *rand.Rand, s api.Sys, all []point) point {
	near := slices.DeleteFunc(slices.Clone(all), func(p point) bool {
		return slices.ContainsFunc(p.vals, func(val int) bool { return val < -3 || val > 3 })
	})
	fitting := slices.DeleteFunc(slices.Clone(near), func(p point) bool { return !fits(s, p) })
	if len(fitting) == 0 || r.Intn(5) == 0 {
		return one(r, near...)
	}
	return one(r, fitting...)
}

func randomNumber(r *rand.Rand, far int) api.Int { return odd(r, zint.Of(int64(r.Intn(2*far+1)-far))) }

// randomTerm has at most two parts, also of variables that do not exist.
func randomTerm(r *rand.Rand, far int) api.Term {
	t := api.Term{K: randomNumber(r, far)}
	for range r.Intn(3) {
		t.Parts = append(t.Parts, api.Part{V: one(r, 0, 1, 0, 1, 0, 1, 2, -1), C: randomNumber(r, far)})
	}
	return t
}

func randomForm(r *rand.Rand, depth int) api.Form {
	f := api.Form{Kind: one(r, api.True, api.True, api.True, api.Atom, api.Atom, api.Atom, api.False, -1, 6)}
	if depth > 0 {
		f.Kind = one(r, api.True, api.Atom, api.Atom, api.Not, api.And, api.Or)
		for range r.Intn(3) {
			f.Kids = append(f.Kids, randomForm(r, depth-1))
		}
	}
	f.R = api.Rel{T: randomTerm(r, 2), Eq: r.Intn(3) == 0}
	return f
}

func randomAct(r *rand.Rand, s api.Sys) api.Act {
	a := api.Act{Proc: r.Intn(max(len(s.Procs), 1)), From: r.Intn(2), To: r.Intn(2), Guard: randomForm(r, r.Intn(3))}
	if r.Intn(12) == 0 {
		*one(r, &a.Proc, &a.From, &a.To) = one(r, -1, 2, 3, 1<<62, -1<<62)
	}
	for range r.Intn(4) {
		if len(s.Vars) > 0 {
			a.Moves = append(a.Moves, api.Move{V: r.Intn(len(s.Vars)), Any: r.Intn(3) == 0, T: randomTerm(r, 1)})
		}
	}
	if r.Intn(12) == 0 {
		a.Moves = append(a.Moves, api.Move{V: one(r, -1, len(s.Vars), 1<<62, -1<<62), Any: r.Intn(2) == 0})
	}
	return a
}

// randomSystem has at most two processes and two variables, with bounds of all sorts.
func randomSystem(r *rand.Rand) api.Sys {
	var s api.Sys
	for range one(r, 0, 1, 1, 1, 2, 2) {
		s.Procs = append(s.Procs, api.Proc{Locs: make([]string, one(r, 0, 1, 1, 2, 2, 2, 2, 2, 3))})
	}
	s.Vars = make([]string, one(r, 0, 1, 1, 2, 2, 2))
	for range max(len(s.Vars)+one(r, 0, 0, 0, 0, -1, 1), 0) {
		lo := r.Intn(4) - 2
		s.Bounds = append(s.Bounds, api.Bound{Is: r.Intn(4) > 0, Lo: odd(r, zint.Of(int64(lo))), Hi: odd(r, zint.Of(int64(lo+one(r, 0, 1, 2, 3, 4, 4, 4, 4, -1))))})
	}
	s.Init = randomForm(r, r.Intn(3))
	for range r.Intn(5) {
		s.Acts = append(s.Acts, randomAct(r, s))
	}
	return s
}
