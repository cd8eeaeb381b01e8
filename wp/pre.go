package wp

import (
	"slices"

	"plumbline/api"
	"plumbline/logic"
	"plumbline/rel"
)

// Pre returns a precondition of f for an act, or -1, at copy 0.
func Pre(s api.Sys, act int, f api.Form) api.Form {
	if act == stutter {
		return logic.All(f)
	}
	counting, ok := sound(s, act)
	if !ok {
		return logic.Truth(false)
	}
	var assigned []int
	var by []api.Term
	for v, m := range counting {
		if m != nil && !m.Any {
			assigned, by = append(assigned, v), append(by, m.T)
		}
	}
	left := without(logic.Flat(f), counting)
	return logic.All(Can(s, act, 0), logic.PutAll(left, assigned, by))
}

// without returns a flat formula with True in place of each relation that contains a
// variable which can become anything. Since it has no Not, it holds wherever f holds.
func without(f api.Form, counting []*api.Move) api.Form {
	isAny := func(v int) bool { return v < len(counting) && counting[v] != nil && counting[v].Any }
	if f.Kind == api.Atom && slices.ContainsFunc(rel.Vars(f.R), isAny) {
		return logic.Truth(true)
	}
	left := api.Form{Kind: f.Kind, R: f.R}
	for _, kid := range f.Kids {
		left.Kids = append(left.Kids, without(kid, counting))
	}
	return left
}
