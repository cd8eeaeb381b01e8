package lasso

import (
	"plumbline/abstr"
	"plumbline/api"
	"plumbline/decide"
	"plumbline/dfs"
	"plumbline/logic"
	"plumbline/omega"
	"plumbline/term"
)

// question is the fuel that a question has at most.
const question = 10 * abstr.Query

// check asks questions about a lasso, as long as it has fuel for them.
type check struct {
	sys   api.Sys
	ps    []api.Rel
	lasso dfs.Lasso
	fuel  int
	spent bool // there was not enough fuel for a question
}

// round tells what the path of k rounds shows. The state is Open if that is not enough.
func (c *check) round(k int) Answer {
	states := c.end(k) + 1
	if states > mostStates || states*len(c.sys.Vars) > mostVals {
		return Answer{State: Fuel}
	}
	p := path(c.lasso, k)
	says := Says(c.sys, c.ps, p)
	first := c.ask(says, states)
	switch {
	case c.spent:
		return Answer{State: Fuel}
	case first.State == omega.Unsat:
		return Answer{State: Dead, Path: p}
	}
	for j := k - 1; j >= 0; j-- {
		a := c.ask(logic.All(says, c.same(c.end(k), c.end(j))), states)
		if c.spent {
			return Answer{State: Fuel}
		}
		if a.State != omega.Sat {
			continue
		}
		if r := run(c.sys, p, a.Vals, c.end(j)); follows(c.sys, c.ps, r, p) {
			return Answer{State: Real, Run: r}
		}
	}
	return Answer{State: Open, Path: p}
}

// end returns the index of the state of a path at which round k ends.
func (c *check) end(k int) int {
	return len(c.lasso.Stem) + k*len(c.lasso.Cycle)
}

// same states that all values at one state of a path equal those at another one.
func (c *check) same(i, j int) api.Form {
	n := len(c.sys.Vars)
	all := api.Form{Kind: api.And}
	for v := range n {
		all.Kids = append(all.Kids, logic.Compare(api.Eq, term.Var(i*n+v), term.Var(j*n+v)))
	}
	return all
}

// ask asks whether f can hold. A solution has the values of so many states.
func (c *check) ask(f api.Form, states int) omega.Answer {
	given := min(question, c.fuel)
	a := decide.Sat(f, states*len(c.sys.Vars), given)
	c.fuel -= given - a.Left
	c.spent = a.State == omega.Fuel && given < question
	return a
}
