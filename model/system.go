package model

import (
	"cmp"
	"slices"

	"plumbline/api"
	"plumbline/expr"
	"plumbline/zint"
)

// System returns the resolved model and true, or false if it is not valid.
func System(m api.Model) (api.Sys, bool) {
	if !Right(m) {
		return api.Sys{}, false
	}
	s := api.Sys{Vars: varsOf(m.Decls), Procs: each(m.Procs, copyProc)}
	for _, d := range m.Decls {
		for range d.Names {
			s.Bounds = append(s.Bounds, boundOf(d))
		}
	}
	s.Init, _ = expr.Form(m.Init, s.Vars)
	for i, p := range m.Procs {
		for _, c := range p.Cmds {
			s.Acts = append(s.Acts, actOf(c, i, p.Locs, s.Vars))
		}
	}
	return s, true
}

// boundOf returns the bound of each variable of a declaration, in new memory.
func boundOf(d api.Decl) api.Bound {
	if !d.Ranged {
		return api.Bound{}
	}
	lo, _ := zint.Parse(d.Lo)
	hi, _ := zint.Parse(d.Hi)
	return api.Bound{Is: true, Lo: lo, Hi: hi}
}

// actOf returns a command of the process with index proc, resolved.
func actOf(c api.Cmd, proc int, locs, vars []string) api.Act {
	a := api.Act{Proc: proc, From: slices.Index(locs, c.From), To: slices.Index(locs, c.To)}
	a.Guard, _ = expr.Form(c.Guard, vars)
	for _, s := range c.Sets {
		a.Moves = append(a.Moves, moveOf(s, vars))
	}
	slices.SortFunc(a.Moves, func(x, y api.Move) int { return cmp.Compare(x.V, y.V) })
	return a
}

func moveOf(s api.Set, vars []string) api.Move {
	m := api.Move{V: slices.Index(vars, s.Var), Any: s.Any}
	if !s.Any {
		m.T, _ = expr.Term(s.E, vars)
	}
	return m
}

// each returns what change returns for each element of a list.
func each[T any](list []T, change func(T) T) []T {
	var r []T
	for _, x := range list {
		r = append(r, change(x))
	}
	return r
}

func copyProc(p api.Proc) api.Proc {
	return api.Proc{Name: p.Name, Locs: copyOf(p.Locs), Cmds: each(p.Cmds, copyCmd)}
}

func copyCmd(c api.Cmd) api.Cmd {
	return api.Cmd{From: c.From, To: c.To, Guard: copyTree(c.Guard), Sets: each(c.Sets, copySet)}
}

func copySet(s api.Set) api.Set {
	return api.Set{Var: s.Var, Any: s.Any, E: copyOf(s.E)}
}

// copyTree copies a valid condition.
func copyTree(t api.Tree) api.Tree {
	return api.Tree{Kind: t.Kind, L: copyOf(t.L), Op: t.Op, R: copyOf(t.R), Kids: each(t.Kids, copyTree)}
}

func copyOf[T any](list []T) []T {
	return append([]T(nil), list...)
}
