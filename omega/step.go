package omega

import (
	"plumbline/api"
	"plumbline/elim"
	"plumbline/shadow"
	"plumbline/zint"
)

// step decides whether rs have a solution. Fresh variables are numbered from next
// or from behind the variables of rs. Values beyond the end of a solution are 0.
func step(rs []api.Rel, next, fuel int) Answer {
	if fuel <= len(rs) {
		return Answer{State: Fuel}
	}
	fuel -= 1 + len(rs)
	s := elim.Solve(rs, next)
	if !s.OK {
		return Answer{State: Unsat, Left: fuel}
	}
	a := withoutEq(s.Rest, s.Next, fuel)
	if a.State == Sat {
		a.Vals = elim.Back(s.Swaps, a.Vals)
	}
	return a
}

// withoutEq decides whether rs have a solution. None of them has Eq, and Tidy does
// not change them.
func withoutEq(rs []api.Rel, next, fuel int) Answer {
	v, exact := shadow.Choose(rs)
	if v < 0 { // then there are no relations: each of them would have a variable
		return Answer{State: Sat, Left: fuel}
	}
	a := project(rs, v, next, fuel, shadow.Real)
	if exact || a.State != Sat {
		return fitted(a, rs, v)
	}
	a = project(rs, v, next, a.Left, shadow.Dark)
	if a.State != Unsat {
		return fitted(a, rs, v)
	}
	return splinter(rs, v, next, a.Left)
}

// project performs a step for a shadow of rs, by which v is eliminated.
func project(rs []api.Rel, v, next, fuel int, without func([]api.Rel, int) []api.Rel) Answer {
	if shadowSize(rs, v) >= fuel { // as the step finds, too, but it needs the shadow
		return Answer{State: Fuel}
	}
	return step(without(rs, v), next, fuel)
}

// shadowSize is the number of relations of a shadow of rs, by which v is
// eliminated. The terms of rs are plain.
func shadowSize(rs []api.Rel, v int) int {
	lower, upper := 0, 0
	for _, r := range rs {
		for _, p := range r.T.Parts {
			switch {
			case p.V != v:
			case zint.Sign(p.C) > 0:
				lower++
			default:
				upper++
			}
		}
	}
	return len(rs) - lower - upper + lower*upper
}

// fitted is the answer a for a shadow of rs, with the value of v, which was
// eliminated, if there is a solution.
func fitted(a Answer, rs []api.Rel, v int) Answer {
	if a.State == Sat {
		val, _ := shadow.Fit(rs, v, a.Vals)
		a.Vals = firstOf(a.Vals, max(len(a.Vals), v+1))
		a.Vals[v] = val
	}
	return a
}

// splinter decides whether one of the pieces of rs has a solution, one by one.
func splinter(rs []api.Rel, v, next, fuel int) Answer {
	pieces, e := shadow.Pieces(rs, v, min(api.MaxCubes, fuel))
	if e != api.OK {
		return Answer{State: Fuel}
	}
	for _, piece := range pieces {
		a := step(piece, next, fuel)
		if a.State != Unsat {
			return a
		}
		fuel = a.Left
	}
	return Answer{State: Unsat, Left: fuel}
}
