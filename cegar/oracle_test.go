package cegar_test

import (
	"fmt"
	"slices"
	"testing"

	"plumbline/abstr"
	"plumbline/api"
	"plumbline/buchi"
	"plumbline/cegar"
	"plumbline/confine"
	"plumbline/decide"
	"plumbline/dfs"
	"plumbline/kripke"
	"plumbline/lasso"
	"plumbline/omega"
	"plumbline/refine"
	"plumbline/word"
	"plumbline/wp"
)

// plenty is more fuel than most checks of these tests need.
const plenty = 1 << 20

// verdicts are texts of the verdicts.
var verdicts = map[int]string{api.Holds: "holds", api.Violated: "violated", api.Unknown: "unknown"}

// checkByWords is what is told of a result that follows the document's words. The system
// and the atoms are not to be about variables that the system does not have.
func checkByWords(s api.Sys, f api.Ltl, props []api.Prop, fuel int) string {
	left, rounds := max(0, min(fuel, api.MaxFuel)), 0
	tell := func(verdict int, why string) string {
		return fmt.Sprintf("%s: %s, %d rounds, %d left", verdicts[verdict], why, rounds, left)
	}
	// step 1
	if slices.ContainsFunc(s.Procs, func(p api.Proc) bool { return len(p.Locs) == 0 }) {
		return tell(api.Holds, "no initial state")
	}
	had := min(left, 4000)
	start := decide.Sat(wp.Start(s, 0), 0, had)
	left = left - had + start.Left
	if start.State == omega.Unsat {
		return tell(api.Holds, "no initial state")
	}
	if start.State == omega.Fuel && had < 4000 {
		return tell(api.Unknown, "budget")
	}
	// step 2
	automaton, e := buchi.For(word.Plain(f, true))
	if e != api.OK {
		return tell(api.Unknown, "automaton")
	}
	_, confined := confine.Count(s)
	ps, e := abstr.Base(props)
	if e != api.OK && !confined {
		return tell(api.Unknown, "predicates")
	}
	// step 3
	if confined {
		found := confine.Search(s, props, automaton, left)
		left = found.Left
		verdict := map[int]int{confine.Found: api.Violated, confine.None: api.Holds, confine.Fuel: api.Unknown}[found.State]
		return tell(verdict, map[int]string{confine.Found: "all states", confine.None: "all states", confine.Fuel: "budget"}[found.State])
	}
	// step 4
	for rounds < 40 {
		rounds++
		found := dfs.Search(s, props, ps, automaton, left)
		left = found.Left
		if found.State == dfs.None {
			return tell(api.Holds, "abstraction")
		}
		if found.State == dfs.Fuel {
			return tell(api.Unknown, "budget")
		}
		answer := lasso.Check(s, ps, found.Lasso, 4, left)
		left = answer.Left
		if answer.State == lasso.Real {
			return tell(api.Violated, "abstraction")
		}
		if answer.State == lasso.Fuel {
			return tell(api.Unknown, "budget")
		}
		more, ok := refine.New(s, ps, answer.Path)
		if !ok {
			return tell(api.Unknown, "refinement")
		}
		ps = more
	}
	return tell(api.Unknown, "rounds")
}

// told tells a result as checkByWords does, and expects its run to be one for which the
// property does not hold.
func told(t *testing.T, s api.Sys, f api.Ltl, props []api.Prop, r cegar.Result) string {
	t.Helper()
	text := fmt.Sprintf("%s: %s, %d rounds, %d left", verdicts[r.Verdict], r.Why, r.Rounds, r.Left)
	what := fmt.Sprintf("%s with %s: %+v of %+v for %+v", text, toldRun(r.Run), f, props, s)
	switch {
	case r.Verdict != api.Violated && len(r.Run.Stem)+len(r.Run.Cycle)+len(r.Run.Acts) > 0:
		t.Errorf("a run beside %.1500s", what)
	case r.Verdict == api.Violated && !kripke.Right(s, r.Run):
		t.Errorf("no valid run: %.1500s", what)
	case r.Verdict == api.Violated && word.Holds(f, kripke.Spell(props, r.Run), 0):
		t.Errorf("the property holds for the run: %.1500s", what)
	}
	// each refinement adds a predicate, so that the 40 rounds are never used up
	if r.Rounds < 0 || r.Rounds > api.MaxPreds+1 || r.Why == "rounds" || r.Left < 0 {
		t.Errorf("%.1500s", what)
	}
	return text
}

// expectResult expects what the document says of a result, with fuel that is just enough,
// less and more, and returns the result.
func expectResult(t *testing.T, s api.Sys, f api.Ltl, props []api.Prop) cegar.Result {
	t.Helper()
	what := fmt.Sprintf("%+v of %+v for %+v", f, props, s)
	whole := cegar.Check(s, f, props, plenty)
	expect(t, what, told(t, s, f, props, whole), checkByWords(s, f, props, plenty))
	used, known := plenty-whole.Left, false
	fuels := []int{-1, 0, used / 3, used / 2, used - 2, used - 1, used, used + 1, used + 4000, used + 50000, api.MaxFuel}
	slices.Sort(fuels)
	for _, fuel := range fuels {
		if fuel > plenty && whole.Why == "budget" {
			continue // it would take long
		}
		r := cegar.Check(s, f, props, fuel)
		got := told(t, s, f, props, r)
		expect(t, fmt.Sprint("fuel ", fuel, " of ", used, ", ", what), got, checkByWords(s, f, props, fuel))
		if max(fuel, 0) < used && r.Why != "budget" || known && r.Why == "budget" || fuel > plenty && r.Why == "budget" {
			t.Errorf("fuel %d of %d: %s: %.500s", fuel, used, got, what)
		}
		known = r.Why != "budget"
		if known && (r.Verdict != whole.Verdict || r.Why != whole.Why || toldRun(r.Run) != toldRun(whole.Run) || r.Rounds != whole.Rounds || r.Left != max(0, min(fuel, api.MaxFuel))-used) {
			t.Errorf("fuel %d of %d: %s, then %d, %s: %.500s", fuel, used, got, whole.Verdict, whole.Why, what)
		}
	}
	return whole
}

// step is an act, or -1, and the index of the state to which it leads.
type step struct{ act, to int }

func stepsOf(s api.Sys, all []api.State) [][]step {
	steps := make([][]step, len(all))
	for i, x := range all {
		for j, y := range all {
			for act := -1; act < len(s.Acts); act++ {
				if kripke.Leads(s, x, act, y) {
					steps[i] = append(steps[i], step{act, j})
					break // another act has the same word
				}
			}
		}
	}
	return steps
}

// violating is a valid run through some states for which a property does not hold, among
// those of at most so many states, and whether there is one. States may be visited several
// times. At most a number of runs are looked at; it returns how many these are.
func violating(s api.Sys, f api.Ltl, props []api.Prop, all []api.State, most, runs int) (api.Run, bool, int) {
	steps := stepsOf(s, all)
	var found api.Run
	var path, acts []int
	count := 0
	var extend func() bool
	extend = func() bool {
		for _, next := range steps[path[len(path)-1]] {
			acts = append(acts, next.act)
			for i, at := range path {
				if at != next.to || count >= runs {
					continue
				}
				count++
				found = api.Run{Acts: slices.Clone(acts)}
				for k, at := range path {
					if k < i {
						found.Stem = append(found.Stem, all[at])
					} else {
						found.Cycle = append(found.Cycle, all[at])
					}
				}
				if !word.Holds(f, kripke.Spell(props, found), 0) {
					return true
				}
			}
			if len(path) < most && count < runs {
				path = append(path, next.to)
				if extend() {
					return true
				}
				path = path[:len(path)-1]
			}
			acts = acts[:len(acts)-1]
		}
		return false
	}
	for i, x := range all {
		path, acts = []int{i}, nil
		if kripke.First(s, x) && extend() {
			return found, true, count
		}
	}
	return api.Run{}, false, count
}
