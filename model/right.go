package model

import (
	"slices"
	"strings"

	"plumbline/api"
	"plumbline/expr"
	"plumbline/lex"
)

// Right reports whether a model is valid.
func Right(m api.Model) bool {
	if !rightDecls(m.Decls) {
		return false
	}
	vars := varsOf(m.Decls)
	return rightCond(m.Init, vars) && rightProcs(m.Procs, vars)
}

// varsOf returns the names of the variables in order.
func varsOf(ds []api.Decl) []string {
	var vars []string
	for _, d := range ds {
		vars = append(vars, d.Names...)
	}
	return vars
}

// declare adds names, and reports whether they are valid, none of them is declared
// already, and at most so many are declared then.
func (n names) declare(most int, all ...string) bool {
	if len(all) > most-len(n) {
		return false
	}
	for _, name := range all {
		if !lex.Name(name) || n.has(name) {
			return false
		}
		n.add(name)
	}
	return true
}

func rightDecls(ds []api.Decl) bool {
	vars := names{}
	for _, d := range ds {
		if len(d.Names) == 0 || !vars.declare(api.MaxVars, d.Names...) || !rightRange(d) {
			return false
		}
	}
	return true
}

func rightRange(d api.Decl) bool {
	if !d.Ranged {
		return d.Lo == "" && d.Hi == ""
	}
	return rightInteger(d.Lo) && rightInteger(d.Hi) && ordered(d.Lo, d.Hi)
}

func rightInteger(s string) bool {
	return lex.Number(strings.TrimPrefix(s, "-"))
}

// rightCond reports whether a condition is valid, and all its names are in vars.
func rightCond(t api.Tree, vars []string) bool {
	_, ok := expr.Form(t, vars)
	return ok
}

func rightProcs(ps []api.Proc, vars []string) bool {
	procs := names{}
	for _, p := range ps {
		if !procs.declare(api.MaxProcs, p.Name) || !rightProc(p, vars) {
			return false
		}
	}
	return len(ps) > 0
}

func rightProc(p api.Proc, vars []string) bool {
	if len(p.Locs) == 0 || len(p.Cmds) > api.MaxCmds {
		return false
	}
	wrong := func(c api.Cmd) bool { return !rightCmd(c, p.Locs, vars) }
	return names{}.declare(api.MaxLocs, p.Locs...) && !slices.ContainsFunc(p.Cmds, wrong)
}

func rightCmd(c api.Cmd, locs, vars []string) bool {
	assigned := names{}
	for _, s := range c.Sets {
		if !assigned.declare(api.MaxVars, s.Var) || !rightSet(s, vars) {
			return false
		}
	}
	return slices.Contains(locs, c.From) && slices.Contains(locs, c.To) && rightCond(c.Guard, vars)
}

func rightSet(s api.Set, vars []string) bool {
	if !slices.Contains(vars, s.Var) {
		return false
	}
	if s.Any {
		return len(s.E) == 0
	}
	_, ok := expr.Term(s.E, vars)
	return ok
}
