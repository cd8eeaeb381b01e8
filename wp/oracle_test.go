package wp_test

import (
	"slices"

	"plumbline/api"
	"plumbline/logic"
	"plumbline/term"
	"plumbline/zint"
)

// This file says what the document says, word by word, of values: those of one copy are
// the first ones of a list, and those of the next copy lie behind them.

func withinBound(s api.Sys, v int, val api.Int) bool {
	if v >= len(s.Bounds) || !s.Bounds[v].Is {
		return true
	}
	return zint.Cmp(val, s.Bounds[v].Lo) >= 0 && zint.Cmp(val, s.Bounds[v].Hi) <= 0
}

// at is the value of a variable, which is 0 beyond the end of a list.
func at(vals []api.Int, v int) api.Int {
	if v >= len(vals) {
		return api.Int{}
	}
	return vals[v]
}

func rangeHolds(s api.Sys, vals []api.Int) bool {
	for v := range s.Vars {
		if !withinBound(s, v, at(vals, v)) {
			return false
		}
	}
	return true
}

func startHolds(s api.Sys, vals []api.Int) bool {
	return rangeHolds(s, vals) && logic.Holds(s.Init, vals)
}

func isSound(s api.Sys, act int) bool {
	if act < 0 || act >= len(s.Acts) {
		return false
	}
	a := s.Acts[act]
	if a.Proc < 0 || a.Proc >= len(s.Procs) {
		return false
	}
	n := len(s.Procs[a.Proc].Locs)
	if a.From < 0 || a.From >= n || a.To < 0 || a.To >= n {
		return false
	}
	return !slices.ContainsFunc(a.Moves, func(m api.Move) bool { return m.V < 0 || m.V >= len(s.Vars) })
}

func canStart(s api.Sys, locs []int, act int) bool {
	return isSound(s, act) && len(locs) == len(s.Procs) && locs[s.Acts[act].Proc] == s.Acts[act].From
}

// firstMove is the first Move of a variable, or false if it has none.
func firstMove(a api.Act, v int) (api.Move, bool) {
	i := slices.IndexFunc(a.Moves, func(m api.Move) bool { return m.V == v })
	if i < 0 {
		return api.Move{}, false
	}
	return a.Moves[i], true
}

func canHolds(s api.Sys, act int, vals []api.Int) bool {
	if !isSound(s, act) || !logic.Holds(s.Acts[act].Guard, vals) {
		return false
	}
	for v := range s.Vars {
		m, is := firstMove(s.Acts[act], v)
		switch {
		case !is && !withinBound(s, v, at(vals, v)):
			return false
		case is && m.Any && v < len(s.Bounds) && s.Bounds[v].Is && zint.Cmp(s.Bounds[v].Lo, s.Bounds[v].Hi) > 0:
			return false
		case is && !m.Any && !withinBound(s, v, term.Value(m.T, vals)):
			return false
		}
	}
	return true
}

func stuckHolds(s api.Sys, locs []int, vals []api.Int) bool {
	for act := range s.Acts {
		if canStart(s, locs, act) && canHolds(s, act, vals) {
			return false
		}
	}
	return true
}

func stepHolds(s api.Sys, locs []int, act int, vals []api.Int) bool {
	var next []api.Int
	for v := range s.Vars {
		next = append(next, at(vals, len(s.Vars)+v))
	}
	if act != -1 && (!canStart(s, locs, act) || !logic.Holds(s.Acts[act].Guard, vals) || !rangeHolds(s, next)) {
		return false
	}
	if act == -1 && !stuckHolds(s, locs, vals) {
		return false
	}
	for v := range s.Vars {
		m, is := api.Move{}, false
		if act != -1 {
			m, is = firstMove(s.Acts[act], v)
		}
		switch {
		case !is && zint.Cmp(next[v], at(vals, v)) != 0:
			return false
		case is && !m.Any && zint.Cmp(next[v], term.Value(m.T, vals)) != 0:
			return false
		}
	}
	return true
}

// preHolds says what Pre does at values of an act which is not -1.
func preHolds(s api.Sys, act int, f api.Form, vals []api.Int) bool {
	if !canHolds(s, act, vals) {
		return false
	}
	after := slices.Clone(vals)
	any := map[int]bool{}
	for v := range s.Vars {
		if m, is := firstMove(s.Acts[act], v); is && m.Any {
			any[v] = true
		} else if is {
			for len(after) <= v {
				after = append(after, api.Int{})
			}
			after[v] = term.Value(m.T, vals)
		}
	}
	return flatHolds(logic.Flat(f), any, after)
}

// flatHolds says whether a flat formula holds at values, where each relation with one of
// some variables counts as true.
func flatHolds(f api.Form, any map[int]bool, vals []api.Int) bool {
	if f.Kind == api.Atom {
		isAny := func(p api.Part) bool { return any[p.V] }
		return slices.ContainsFunc(f.R.T.Parts, isAny) || logic.Holds(f, vals)
	}
	holds := func(kid api.Form) bool { return flatHolds(kid, any, vals) }
	fails := func(kid api.Form) bool { return !flatHolds(kid, any, vals) }
	switch f.Kind {
	case api.And:
		return !slices.ContainsFunc(f.Kids, fails)
	case api.Or:
		return slices.ContainsFunc(f.Kids, holds)
	}
	return f.Kind == api.True
}
