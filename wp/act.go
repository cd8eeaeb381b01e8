package wp

import (
	"plumbline/api"
	"plumbline/logic"
	"plumbline/moves"
	"plumbline/term"
)

// stutter is the number of the step of a stuck state to itself.
const stutter = -1

// sound returns for each variable the Move of an act that counts, or nil if there is
// none, and true. It returns nil and false if the act does not exist or is not sound.
func sound(s api.Sys, act int) ([]*api.Move, bool) {
	if !isIndex(act, len(s.Acts)) {
		return nil, false
	}
	a := s.Acts[act]
	if !isIndex(a.Proc, len(s.Procs)) {
		return nil, false
	}
	places := len(s.Procs[a.Proc].Locs)
	first, ok := moves.First(a.Moves, len(s.Vars))
	if !ok || !isIndex(a.From, places) || !isIndex(a.To, places) {
		return nil, false
	}
	counting := make([]*api.Move, len(s.Vars))
	for _, i := range first {
		counting[a.Moves[i].V] = &a.Moves[i]
	}
	return counting, true
}

// startable is sound, but also returns false if the act cannot start at locs. That is
// looked at first, since most acts fail there.
func startable(s api.Sys, locs []int, act int) ([]*api.Move, bool) {
	if !isIndex(act, len(s.Acts)) || len(locs) != len(s.Procs) {
		return nil, false
	}
	if a := s.Acts[act]; !isIndex(a.Proc, len(locs)) || locs[a.Proc] != a.From {
		return nil, false
	}
	return sound(s, act)
}

// Places returns the locations after an act, or -1, and true, or nil and false if it
// cannot start at locs.
func Places(s api.Sys, locs []int, act int) ([]int, bool) {
	_, ok := startable(s, locs, act)
	if !ok && act != stutter {
		return nil, false
	}
	after := append([]int(nil), locs...)
	if ok {
		after[s.Acts[act].Proc] = s.Acts[act].To
	}
	return after, true
}

// within states that t is a value that variable v can have.
func within(s api.Sys, v int, t api.Term) []api.Form {
	if v >= len(s.Bounds) || !s.Bounds[v].Is {
		return nil
	}
	lo, hi := term.Number(s.Bounds[v].Lo), term.Number(s.Bounds[v].Hi)
	return []api.Form{logic.Compare(api.Le, lo, t), logic.Compare(api.Le, t, hi)}
}

// inhabited states that there is a value that variable v can have: if so, Lo is one.
func inhabited(s api.Sys, v int) []api.Form {
	if v >= len(s.Bounds) {
		return nil
	}
	return within(s, v, term.Number(s.Bounds[v].Lo))
}

// isIndex reports whether i is the index of one of n things.
func isIndex(i, n int) bool {
	return i >= 0 && i < n
}
