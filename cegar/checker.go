package cegar

import (
	"plumbline/abstr"
	"plumbline/api"
	"plumbline/buchi"
	"plumbline/confine"
	"plumbline/decide"
	"plumbline/dfs"
	"plumbline/lasso"
	"plumbline/omega"
	"plumbline/refine"
	"plumbline/wp"
)

// pathRounds is up to how many rounds of an abstract lasso are looked at.
const pathRounds = 4

// checker takes the steps of a check, as long as it has fuel for them.
type checker struct {
	sys    api.Sys
	props  []api.Prop
	fuel   int
	rounds int
}

// start tells whether there is an initial state. If that is not known with all the fuel
// that the question may have, there can be one.
func (c *checker) start() int {
	for _, p := range c.sys.Procs {
		if len(p.Locs) == 0 {
			return omega.Unsat
		}
	}
	given := min(abstr.Query, c.fuel)
	a := decide.Sat(wp.Start(c.sys, 0), 0, given)
	c.fuel -= given - a.Left
	if a.State == omega.Fuel && given == abstr.Query {
		return omega.Sat
	}
	return a.State
}

// explicit searches all states for a run whose word the automaton accepts.
func (c *checker) explicit(violating buchi.Auto) Result {
	const why = "all states"
	found := confine.Search(c.sys, c.props, violating, c.fuel)
	c.fuel = found.Left
	switch found.State {
	case confine.Found:
		return Result{Verdict: api.Violated, Why: why, Run: found.Run}
	case confine.None:
		return Result{Verdict: api.Holds, Why: why}
	}
	return unknown("budget")
}

// refined searches abstractions for such a run, each with more predicates than the one
// before.
func (c *checker) refined(violating buchi.Auto, ps []api.Rel) Result {
	for range Rounds {
		path, result := c.round(violating, ps)
		if result.Verdict != 0 {
			return result
		}
		more, ok := refine.New(c.sys, ps, path)
		if !ok {
			return unknown("refinement")
		}
		ps = more
	}
	return unknown("rounds")
}

// round searches one abstraction. If there is no verdict, it returns a path to refine by.
func (c *checker) round(violating buchi.Auto, ps []api.Rel) (lasso.Path, Result) {
	const why = "abstraction"
	c.rounds++
	found := dfs.Search(c.sys, c.props, ps, violating, c.fuel)
	c.fuel = found.Left
	switch found.State {
	case dfs.None:
		return lasso.Path{}, Result{Verdict: api.Holds, Why: why}
	case dfs.Fuel:
		return lasso.Path{}, unknown("budget")
	}
	checked := lasso.Check(c.sys, ps, found.Lasso, pathRounds, c.fuel)
	c.fuel = checked.Left
	switch checked.State {
	case lasso.Real:
		return lasso.Path{}, Result{Verdict: api.Violated, Why: why, Run: checked.Run}
	case lasso.Fuel:
		return lasso.Path{}, unknown("budget")
	}
	return checked.Path, Result{}
}
