package expr

import (
	"slices"

	"plumbline/api"
	"plumbline/logic"
	"plumbline/term"
	"plumbline/zint"
)

// Term returns the term of a sum. A name stands for the variable whose number is its
// index in vars.
func Term(ms []api.Mono, vars []string) (api.Term, bool) {
	if !RightSum(ms) {
		return api.Term{}, false
	}
	var sum api.Term
	for _, m := range ms {
		t, ok := termOf(m, vars)
		if !ok {
			return api.Term{}, false
		}
		sum = term.Add(sum, t)
	}
	return sum, true
}

// termOf returns the term of a valid mono.
func termOf(m api.Mono, vars []string) (api.Term, bool) {
	n := zint.Of(1)
	if m.Num != "" {
		n, _ = zint.Parse(m.Num)
	}
	if m.Neg {
		n = zint.Neg(n)
	}
	if m.Var == "" {
		return term.Number(n), true
	}
	v := slices.Index(vars, m.Var)
	return term.Scale(term.Var(v), n), v >= 0
}

// Form returns the formula of a condition, with the variables of Term.
func Form(t api.Tree, vars []string) (api.Form, bool) {
	if !Right(t) {
		return logic.Truth(false), false
	}
	f, ok := form(t, vars)
	if !ok {
		return logic.Truth(false), false
	}
	return f, true
}

// form returns the formula of a valid condition. What is built here needs no copy, so
// it is not joined by layer 5's functions: they would copy it at each level.
func form(t api.Tree, vars []string) (api.Form, bool) {
	switch t.Kind {
	case api.TCmp:
		return compare(t, vars)
	case api.TNot:
		return joined(api.Not, t.Kids, vars)
	case api.TAnd:
		return joined(api.And, t.Kids, vars)
	case api.TOr:
		return joined(api.Or, t.Kids, vars)
	}
	return logic.Truth(t.Kind == api.TTrue), true
}

func compare(t api.Tree, vars []string) (api.Form, bool) {
	l, lok := Term(t.L, vars)
	r, rok := Term(t.R, vars)
	return logic.Compare(t.Op, l, r), lok && rok
}

func joined(kind int, kids []api.Tree, vars []string) (api.Form, bool) {
	f := api.Form{Kind: kind}
	for _, kid := range kids {
		k, ok := form(kid, vars)
		if !ok {
			return api.Form{}, false
		}
		f.Kids = append(f.Kids, k)
	}
	return f, true
}
