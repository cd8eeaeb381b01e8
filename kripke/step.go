package kripke

import (
	"plumbline/api"
	"plumbline/logic"
	"plumbline/moves"
	"plumbline/term"
	"plumbline/zint"
)

// stutter is the number of the step of a stuck state to itself.
const stutter = -1

// Can reports whether an act leads from x to some state. If an act can set variables to
// any value, then also to the value that they have, which is within its bound.
func Can(s api.Sys, x api.State, act int) bool {
	_, ok := after(s, x, act, func(v int) api.Int { return x.Vals[v] })
	return ok
}

// Stuck reports whether x fits s and no act leads from it to any state.
func Stuck(s api.Sys, x api.State) bool {
	if !Fits(s, x) {
		return false
	}
	for act := range s.Acts {
		if Can(s, x, act) {
			return false
		}
	}
	return true
}

// Leads reports whether an act, or -1, leads from x to y.
func Leads(s api.Sys, x api.State, act int, y api.State) bool {
	if act == stutter {
		return Same(x, y) && Stuck(s, x)
	}
	if !Fits(s, y) {
		return false
	}
	z, ok := after(s, x, act, func(v int) api.Int { return y.Vals[v] })
	return ok && Same(y, z)
}

// Go returns the state to which an act, or -1, leads from x. The variables with Any get
// the values of picks, in the order of the variables, and 0 if there are fewer picks.
func Go(s api.Sys, x api.State, act int, picks []api.Int) (api.State, bool) {
	if act == stutter {
		if !Stuck(s, x) {
			return api.State{}, false
		}
		return copyOf(x), true
	}
	next := 0
	return after(s, x, act, func(int) api.Int {
		next++
		if next > len(picks) {
			return api.Int{}
		}
		return picks[next-1]
	})
}

// after returns the state to which an act leads from x if the variables with Any get
// what pick returns for them; it is asked in the order of the variables.
func after(s api.Sys, x api.State, act int, pick func(v int) api.Int) (api.State, bool) {
	if !isIndex(act, len(s.Acts)) || !starts(s, x, s.Acts[act]) {
		return api.State{}, false
	}
	a := s.Acts[act]
	counting, ok := moves.First(a.Moves, len(s.Vars))
	if !ok {
		return api.State{}, false
	}
	y := copyOf(x)
	y.Locs[a.Proc] = a.To
	for _, i := range counting {
		m := a.Moves[i]
		if m.Any {
			y.Vals[m.V] = copyOfNumber(pick(m.V))
		} else {
			y.Vals[m.V] = term.Value(m.T, x.Vals)
		}
	}
	if !Fits(s, y) {
		return api.State{}, false
	}
	return y, true
}

// starts reports whether x fits s, and a can start at its locations and values. The
// location is looked at first, since most acts fail there.
func starts(s api.Sys, x api.State, a api.Act) bool {
	return isIndex(a.Proc, len(x.Locs)) && x.Locs[a.Proc] == a.From && Fits(s, x) && logic.Holds(a.Guard, x.Vals)
}

func copyOf(x api.State) api.State {
	y := api.State{Locs: append([]int(nil), x.Locs...)}
	for _, val := range x.Vals {
		y.Vals = append(y.Vals, copyOfNumber(val))
	}
	return y
}

func copyOfNumber(n api.Int) api.Int {
	return zint.From(n.Neg, n.Abs)
}
