// Package scope replaces the variables that a system does not have by 0, which is their
// value in all of its states. Formulas about several copies of the values (layer 20) would
// take them for variables of other copies, and what they say would not be true.
package scope

import (
	"slices"

	"plumbline/api"
	"plumbline/logic"
	"plumbline/term"
)

// Sys returns a system without such variables, which has the same states and steps.
func Sys(s api.Sys) api.Sys {
	own := s
	own.Init = form(s.Init, len(s.Vars))
	own.Acts = nil
	for _, a := range s.Acts {
		a.Guard = form(a.Guard, len(s.Vars))
		var moves []api.Move
		for _, m := range a.Moves {
			m.T = sum(m.T, len(s.Vars))
			moves = append(moves, m)
		}
		a.Moves = moves
		own.Acts = append(own.Acts, a)
	}
	return own
}

// Props returns atoms without such variables, for a system with n variables. They hold in
// the same states.
func Props(props []api.Prop, n int) []api.Prop {
	var own []api.Prop
	for _, p := range props {
		p.F = form(p.F, n)
		own = append(own, p)
	}
	return own
}

func form(f api.Form, n int) api.Form {
	vs := from(logic.Vars(f), n)
	return logic.PutAll(f, vs, make([]api.Term, len(vs)))
}

func sum(t api.Term, n int) api.Term {
	vs := from(term.Vars(t), n)
	return term.PutAll(t, vs, make([]api.Term, len(vs)))
}

// from returns those of some variables, in increasing order, that are at least n.
func from(vs []int, n int) []int {
	first, _ := slices.BinarySearch(vs, n)
	return vs[first:]
}
