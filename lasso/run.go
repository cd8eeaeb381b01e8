package lasso

import (
	"slices"

	"plumbline/abstr"
	"plumbline/api"
	"plumbline/logic"
	"plumbline/term"
	"plumbline/wp"
)

// stutter is the number of the step of a stuck state to itself.
const stutter = -1

// run returns the run that a path with values is, and whose cycle begins at the state with
// an index. The last state of the path is the one there.
func run(s api.Sys, p Path, vals []api.Int, from int) api.Run {
	n := len(s.Vars)
	var states []api.State
	for i, a := range p.States[:len(p.States)-1] {
		states = append(states, api.State{
			Locs: append([]int(nil), a.Locs...),
			Vals: append([]api.Int(nil), vals[i*n:(i+1)*n]...),
		})
	}
	return api.Run{
		Stem:  append([]api.State(nil), states[:from]...),
		Cycle: append([]api.State(nil), states[from:]...),
		Acts:  append([]int(nil), p.Acts...),
	}
}

// follows reports whether a run is valid, and follows a path. What a path says is about
// values only, and its locations need not belong together if it is not from a valid
// lasso. It can also be about variables that the system does not have: they are 0, but a
// formula knows them as those of later states.
func follows(s api.Sys, ps []api.Rel, r api.Run, p Path) bool {
	states := slices.Concat(r.Stem, r.Cycle, r.Cycle[:1])
	if !isInitial(s, states[0]) {
		return false
	}
	for i, act := range r.Acts {
		if !abstr.Same(abstr.Of(ps, states[i]), p.States[i]) || !leads(s, states[i], act, states[i+1]) {
			return false
		}
	}
	return true
}

// isInitial reports whether a state is initial.
func isInitial(s api.Sys, x api.State) bool {
	for _, p := range s.Procs {
		if len(p.Locs) == 0 {
			return false
		}
	}
	return slices.Equal(x.Locs, make([]int, len(s.Procs))) && logic.Holds(wp.Start(s, 0), x.Vals)
}

// leads reports whether an act, or -1, leads from a state that fits to another state.
func leads(s api.Sys, x api.State, act int, y api.State) bool {
	if act == stutter && !logic.Holds(wp.Stuck(s, x.Locs, 0), x.Vals) {
		return false
	}
	locs, ok := wp.Places(s, x.Locs, act)
	return ok && slices.Equal(locs, y.Locs) &&
		logic.Holds(wp.Pre(s, act, equal(y.Vals)), x.Vals) && logic.Holds(wp.Range(s, 0), y.Vals)
}

// equal states that variables have the values of a list.
func equal(vals []api.Int) api.Form {
	all := api.Form{Kind: api.And}
	for v, val := range vals {
		all.Kids = append(all.Kids, logic.Compare(api.Eq, term.Var(v), term.Number(val)))
	}
	return all
}
