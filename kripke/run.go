package kripke

import (
	"slices"

	"plumbline/api"
	"plumbline/logic"
	"plumbline/word"
)

// Right reports whether a run is valid.
func Right(s api.Sys, r api.Run) bool {
	states := slices.Concat(r.Stem, r.Cycle)
	if len(r.Cycle) == 0 || len(r.Acts) != len(states) || !First(s, states[0]) {
		return false
	}
	states = append(states, r.Cycle[0])
	for i, act := range r.Acts {
		if !Leads(s, states[i], act, states[i+1]) {
			return false
		}
	}
	return true
}

// Letter states which atoms hold in x.
func Letter(ps []api.Prop, x api.State) []bool {
	var letter []bool
	for _, p := range ps {
		letter = append(letter, holds(p, x))
	}
	return letter
}

func holds(p api.Prop, x api.State) bool {
	if p.At {
		return isIndex(p.Proc, len(x.Locs)) && x.Locs[p.Proc] == p.Loc
	}
	return logic.Holds(p.F, x.Vals)
}

// Spell returns the word of a run.
func Spell(ps []api.Prop, r api.Run) word.Word {
	return word.Word{Stem: letters(ps, r.Stem), Cycle: letters(ps, r.Cycle)}
}

func letters(ps []api.Prop, states []api.State) [][]bool {
	var all [][]bool
	for _, x := range states {
		all = append(all, Letter(ps, x))
	}
	return all
}
