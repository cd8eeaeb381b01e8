package ltl

import (
	"slices"

	"plumbline/api"
	"plumbline/expr"
	"plumbline/logic"
)

// resolver collects the atoms of a property.
type resolver struct {
	sys     api.Sys
	atoms   []api.Prop
	unknown bool // whether there is an atom that is not known in the system
}

// Resolve resolves a valid property that is known in sys.
func Resolve(t api.Tree, sys api.Sys) (api.Ltl, []api.Prop, bool) {
	if !Right(t) {
		return api.Ltl{}, nil, false
	}
	r := &resolver{sys: sys}
	f := r.resolve(t)
	if r.unknown {
		return api.Ltl{}, nil, false
	}
	return f, r.atoms, true
}

func (r *resolver) resolve(t api.Tree) api.Ltl {
	switch t.Kind {
	case api.TCmp:
		return r.compare(t)
	case api.TAt:
		return r.at(t)
	}
	f := api.Ltl{Kind: t.Kind}
	for _, kid := range t.Kids {
		f.Kids = append(f.Kids, r.resolve(kid))
	}
	return f
}

func (r *resolver) compare(t api.Tree) api.Ltl {
	f, ok := expr.Form(t, r.sys.Vars)
	return r.atom(api.Prop{F: f}, ok)
}

func (r *resolver) at(t api.Tree) api.Ltl {
	proc := procOf(r.sys.Procs, t.Proc)
	loc := locOf(r.sys.Procs, proc, t.Loc)
	return r.atom(api.Prop{At: true, Proc: proc, Loc: loc}, loc >= 0)
}

// atom returns the property that an atom holds, and notes an atom that is new.
func (r *resolver) atom(a api.Prop, known bool) api.Ltl {
	if !known {
		r.unknown = true
		return api.Ltl{}
	}
	i := slices.IndexFunc(r.atoms, func(b api.Prop) bool { return same(a, b) })
	if i < 0 {
		i = len(r.atoms)
		r.atoms = append(r.atoms, a)
	}
	return api.Ltl{Kind: api.TCmp, Prop: i}
}

func same(a, b api.Prop) bool {
	return a.At == b.At && a.Proc == b.Proc && a.Loc == b.Loc && logic.Same(a.F, b.F)
}
