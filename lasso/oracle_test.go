package lasso_test

import (
	"fmt"
	"slices"
	"testing"

	"plumbline/abstr"
	"plumbline/api"
	"plumbline/decide"
	"plumbline/dfs"
	"plumbline/kripke"
	"plumbline/lasso"
	"plumbline/logic"
	"plumbline/omega"
	"plumbline/term"
	"plumbline/wp"
	"plumbline/zint"
)

const plenty = 1 << 28

// pathOf is the path of k rounds.
func pathOf(l dfs.Lasso, k int) lasso.Path {
	n := len(l.Stem)
	p := lasso.Path{States: slices.Clone(l.Stem), Acts: slices.Clone(l.Acts[:n])}
	for range k {
		p.States = append(p.States, l.Cycle...)
		p.Acts = append(p.Acts, l.Acts[n:]...)
	}
	p.States = append(p.States, l.Cycle[0])
	return p
}

func toldPath(p lasso.Path) string {
	return fmt.Sprint(toldAll(p.States), " by ", p.Acts)
}

func toldState(x api.State) string {
	text := fmt.Sprint(x.Locs) + "/"
	for _, val := range x.Vals {
		text += " " + zint.Text(val)
	}
	return text
}

func toldRun(r api.Run) string {
	text := ""
	for _, x := range r.Stem {
		text += toldState(x) + "; "
	}
	text += "| "
	for _, x := range r.Cycle {
		text += toldState(x) + "; "
	}
	return text + fmt.Sprint("by ", r.Acts)
}

// saysByWords is the formula of a path of at most 4096 states.
func saysByWords(s api.Sys, ps []api.Rel, p lasso.Path) api.Form {
	var starts, cubes, steps []api.Form
	starts = append(starts, wp.Start(s, 0))
	for i, a := range p.States {
		cubes = append(cubes, logic.Move(abstr.Cube(ps, a.Bits), i*len(s.Vars)))
		if i+1 < len(p.States) && i < len(p.Acts) {
			steps = append(steps, wp.Step(s, a.Locs, p.Acts[i], i))
		}
	}
	return logic.All(slices.Concat(starts, cubes, steps)...)
}

// isOf reports whether a run is valid, and has the abstract states of a lasso, round after
// round, and its acts.
func isOf(s api.Sys, ps []api.Rel, l dfs.Lasso, r api.Run) bool {
	states := slices.Concat(l.Stem, l.Cycle)
	if !kripke.Right(s, r) {
		return false
	}
	round := func(i int) int {
		if i < len(l.Stem) {
			return i
		}
		return len(l.Stem) + (i-len(l.Stem))%len(l.Cycle)
	}
	for i, x := range slices.Concat(r.Stem, r.Cycle) {
		if !abstr.Same(abstr.Of(ps, x), states[round(i)]) || r.Acts[i] != l.Acts[round(i)] {
			return false
		}
	}
	return len(r.Stem) >= len(l.Stem) && (len(r.Stem)-len(l.Stem))%len(l.Cycle) == 0 && len(r.Cycle)%len(l.Cycle) == 0
}

// asking asks questions as the document says it, and counts them.
type asking struct {
	left, count int
	spent       bool
	open        int // questions without an answer
}

func (q *asking) ask(f api.Form, n int) omega.Answer {
	fuel := min(q.left, 40000)
	answer := decide.Sat(f, n, fuel)
	q.left -= fuel
	q.left += answer.Left
	q.count++
	if answer.State == omega.Fuel {
		q.open++
		q.spent = fuel < 40000
	}
	return answer
}

const nothing = "4, 0 left, " // the fuel was not sufficient

// checkByWords is what is told of an answer that follows the document's words: the state,
// what is left, and the path, or the rounds at whose ends a run begins its cycle and
// repeats.
func checkByWords(s api.Sys, ps []api.Rel, l dfs.Lasso, rounds, fuel int) (string, asking) {
	q := asking{left: max(0, min(fuel, api.MaxFuel))}
	tell := func(state int, more string) (string, asking) {
		return fmt.Sprint(state, ", ", q.left, " left, ", more), q
	}
	if len(l.Cycle) == 0 || len(l.Stem)+len(l.Cycle) != len(l.Acts) {
		return tell(lasso.Open, toldPath(lasso.Path{}))
	}
	last := ""
	for k := 1; k <= min(8, max(1, rounds)); k++ {
		count := len(l.Stem) + k*len(l.Cycle) + 1
		if count > 4096 || count*len(s.Vars) > 65536 {
			return tell(lasso.Fuel, "")
		}
		p := pathOf(l, k)
		last = toldPath(p)
		f := saysByWords(s, ps, p)
		switch a := q.ask(f, 0); {
		case q.spent:
			return nothing, q
		case a.State == omega.Unsat:
			return tell(lasso.Dead, last)
		}
		for j := k - 1; j >= 0; j-- {
			var same []api.Form
			for v := range s.Vars {
				there, here := term.Var((count-1)*len(s.Vars)+v), term.Var((len(l.Stem)+j*len(l.Cycle))*len(s.Vars)+v)
				same = append(same, logic.Compare(api.Eq, there, here))
			}
			a := q.ask(logic.All(f, logic.All(same...)), count*len(s.Vars))
			if q.spent {
				return nothing, q
			}
			if a.State != omega.Sat {
				continue
			}
			var r api.Run
			for i := range count - 1 {
				x := api.State{Locs: p.States[i].Locs, Vals: a.Vals[i*len(s.Vars) : (i+1)*len(s.Vars)]}
				if i < len(l.Stem)+j*len(l.Cycle) {
					r.Stem = append(r.Stem, x)
				} else {
					r.Cycle = append(r.Cycle, x)
				}
			}
			r.Acts = p.Acts
			if isOf(s, ps, l, r) {
				return tell(lasso.Real, fmt.Sprint("rounds ", j, " to ", k))
			}
		}
	}
	return tell(lasso.Open, last)
}

// toldAnswer tells an answer as checkByWords does, and expects its run to be one of the
// lasso.
func toldAnswer(t *testing.T, s api.Sys, ps []api.Rel, l dfs.Lasso, a lasso.Answer) string {
	t.Helper()
	text := fmt.Sprint(a.State, ", ", a.Left, " left, ")
	path, run := toldPath(a.Path), toldRun(a.Run)
	none, still := toldPath(lasso.Path{}), toldRun(api.Run{})
	switch a.State {
	case lasso.Real:
		if !isOf(s, ps, l, a.Run) || path != none {
			t.Fatalf("%s, %s, for %s on %+v", run, path, toldLasso(l), s)
		}
		from := (len(a.Run.Stem) - len(l.Stem)) / len(l.Cycle)
		return text + fmt.Sprint("rounds ", from, " to ", from+len(a.Run.Cycle)/len(l.Cycle))
	case lasso.Dead, lasso.Open:
		text += path
	default:
		text += path[:len(path)-len(none)]
	}
	if run != still {
		t.Fatalf("state %d, with %s", a.State, run)
	}
	return text
}

// expectAnswer expects what the document says of an answer, with fuel that is just enough,
// less and more. It returns what is told of it, without what is left, and the questions.
func expectAnswer(t *testing.T, s api.Sys, ps []api.Rel, l dfs.Lasso, rounds int) (string, asking) {
	t.Helper()
	check := func(fuel int) string { return toldAnswer(t, s, ps, l, lasso.Check(s, ps, l, rounds, fuel)) }
	what := fmt.Sprintf("%d rounds of %s for %v on %+v", rounds, toldLasso(l), ps, s)
	text, q := checkByWords(s, ps, l, rounds, plenty)
	expect(t, what, check(plenty), text)
	used, known := plenty-q.left, false
	fuels := []int{0, 1, used / 3, used / 2, used - 2, used - 1, used, used + 1, used + 40000, 2*used + 50000}
	slices.Sort(fuels)
	for _, fuel := range fuels {
		want, _ := checkByWords(s, ps, l, rounds, fuel)
		got := check(fuel)
		expect(t, fmt.Sprint("fuel ", fuel, " of ", used, ", ", what), got, want)
		if known && got == nothing || got != nothing && max(fuel, 0) < used {
			t.Errorf("fuel %d of %d, %.500s: %s", fuel, used, what, got)
		}
		known = got != nothing
	}
	if !known {
		t.Errorf("not known: %.500s", what)
	}
	var state, left int
	var rest string
	fmt.Sscanf(text, "%d, %d left,", &state, &left)
	rest = text[len(fmt.Sprint(state, ", ", left, " left, ")):]
	return fmt.Sprint(state, " ", rest), q
}

// reaching are the states in which runs through some states can be behind a path, from
// some of them on.
func reaching(s api.Sys, ps []api.Rel, p lasso.Path, from, all []api.State) []api.State {
	for i := range p.States {
		if i > 0 {
			var next []api.State
			for _, y := range all {
				if slices.ContainsFunc(from, func(x api.State) bool { return kripke.Leads(s, x, p.Acts[i-1], y) }) {
					next = append(next, y)
				}
			}
			from = next
		}
		from = slices.DeleteFunc(slices.Clone(from), func(x api.State) bool { return !abstr.Same(abstr.Of(ps, x), p.States[i]) })
	}
	return from
}

// section is a path from a state to another one of it.
func section(p lasso.Path, from, to int) lasso.Path {
	return lasso.Path{States: p.States[from : to+1], Acts: p.Acts[from:to]}
}

// checkByRuns is the state of an answer, and what it is about, by all runs of a system of
// which all states are given, without formulas.
func checkByRuns(s api.Sys, ps []api.Rel, l dfs.Lasso, rounds int, all []api.State) string {
	initial := slices.DeleteFunc(slices.Clone(all), func(x api.State) bool { return !kripke.First(s, x) })
	end := func(k int) int { return len(l.Stem) + k*len(l.Cycle) }
	for k := 1; k <= rounds; k++ {
		p := pathOf(l, k)
		if len(reaching(s, ps, p, initial, all)) == 0 {
			return fmt.Sprint(lasso.Dead, " ", toldPath(p))
		}
		for j := k - 1; j >= 0; j-- {
			for _, x := range reaching(s, ps, section(p, 0, end(j)), initial, all) {
				behind := reaching(s, ps, section(p, end(j), end(k)), []api.State{x}, all)
				if slices.ContainsFunc(behind, func(y api.State) bool { return kripke.Same(x, y) }) {
					return fmt.Sprint(lasso.Real, " rounds ", j, " to ", k)
				}
			}
		}
	}
	return fmt.Sprint(lasso.Open, " ", toldPath(pathOf(l, rounds)))
}
