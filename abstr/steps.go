package abstr

import (
	"plumbline/api"
	"plumbline/decide"
	"plumbline/logic"
	"plumbline/omega"
	"plumbline/wp"
)

// Query is the fuel that a question has at most.
const Query = 4000

// stutter is the number of the step of a stuck state to itself.
const stutter = -1

// Step is a step to an abstract state.
type Step struct {
	Act int
	To  Abs
}

// Starts returns the abstract initial states, in the order of Cmp, with the fuel that is
// left, and true. It returns false if the fuel was not sufficient.
func Starts(s api.Sys, ps []api.Rel, fuel int) (all []Abs, left int, ok bool) {
	q := newAsker(fuel)
	start := wp.Start(s, 0)
	lists := q.search(len(ps), func(bits []bool) api.Form {
		return logic.All(start, Cube(ps, bits))
	})
	if q.spent {
		return nil, 0, false
	}
	for _, bits := range lists {
		all = append(all, Abs{make([]int, len(s.Procs)), bits})
	}
	return all, q.fuel, true
}

// Steps returns the steps from a, act by act, and in the order of Cmp, with the fuel that
// is left, and true. It returns false if the fuel was not sufficient.
func Steps(s api.Sys, ps []api.Rel, a Abs, fuel int) (all []Step, left int, ok bool) {
	q := newAsker(fuel)
	here := logic.All(Cube(ps, a.Bits), wp.Range(s, 0))
	targets := func(act int) [][]bool {
		step := wp.Step(s, a.Locs, act, 0)
		return q.search(len(ps), func(bits []bool) api.Form {
			return logic.All(here, step, logic.Move(Cube(ps, bits), len(s.Vars)))
		})
	}
	for act := range s.Acts {
		if _, can := wp.Places(s, a.Locs, act); !can {
			continue
		}
		for _, bits := range targets(act) {
			locs, _ := wp.Places(s, a.Locs, act)
			all = append(all, Step{act, Abs{locs, bits}})
		}
	}
	if q.may(logic.All(here, wp.Stuck(s, a.Locs, 0))) {
		to := Abs{append([]int(nil), a.Locs...), append([]bool(nil), a.Bits...)}
		all = append(all, Step{stutter, to})
	}
	if q.spent {
		return nil, 0, false
	}
	return all, q.fuel, true
}

// asker asks questions one after the other, as long as it has fuel for them.
type asker struct {
	fuel  int
	spent bool // there was not enough fuel for a question
}

func newAsker(fuel int) asker {
	return asker{fuel: min(max(fuel, 0), api.MaxFuel)}
}

// may reports whether it is not known that f has no solution. Once a question has had
// less fuel than it may have, and is not answered, no more questions are asked.
func (q *asker) may(f api.Form) bool {
	if q.spent {
		return false
	}
	given := min(Query, q.fuel)
	answer := decide.Sat(f, 0, given)
	q.fuel -= given - answer.Left
	q.spent = answer.State == omega.Fuel && given < Query
	return answer.State != omega.Unsat && !q.spent
}

// search returns the lists of n bits of which it is not known that the formula with them
// has no solution, in the order of Cmp. Their first bits are found first, for all lists.
func (q *asker) search(n int, with func(bits []bool) api.Form) [][]bool {
	var lists [][]bool
	if q.may(with(nil)) {
		lists = append(lists, nil)
	}
	for range n {
		var longer [][]bool
		for _, bits := range lists {
			yes, no := extended(bits, true), extended(bits, false)
			mayHold, mayFail := q.may(with(yes)), q.may(with(no))
			if q.spent {
				return nil
			}
			if mayFail {
				longer = append(longer, no)
			}
			if mayHold {
				longer = append(longer, yes)
			}
		}
		lists = longer
	}
	return lists
}

// extended returns bits with one more of them, in new memory.
func extended(bits []bool, last bool) []bool {
	return append(append(make([]bool, 0, len(bits)+1), bits...), last)
}
