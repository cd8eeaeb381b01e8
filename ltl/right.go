package ltl

import (
	"plumbline/api"
	"plumbline/expr"
	"plumbline/lex"
)

// Right reports whether a property is valid.
func Right(t api.Tree) bool {
	return rightWithin(t, api.MaxDepth)
}

// rightWithin reports whether a property is valid and has at most so many levels.
func rightWithin(t api.Tree, levels int) bool {
	switch t.Kind {
	case api.TCmp:
		return expr.Compares(t)
	case api.TAt:
		return rightAt(t)
	}
	n, ok := kidsOf(t.Kind)
	if !ok || len(t.Kids) != n || !expr.Bare(t) {
		return false
	}
	if n == 1 {
		levels--
	}
	for i, kid := range t.Kids {
		within := levels
		if enclosed(t.Kind, kid.Kind, i) {
			within--
		}
		if within < 0 || !rightWithin(kid, within) {
			return false
		}
	}
	return true
}

func rightAt(t api.Tree) bool {
	names := lex.Name(t.Proc) && lex.Name(t.Loc)
	t.Proc, t.Loc = "", ""
	return names && len(t.Kids) == 0 && expr.Bare(t)
}

// kidsOf returns the number of kids of a kind other than TCmp and TAt, or false if
// there is no such kind.
func kidsOf(kind int) (int, bool) {
	switch kind {
	case api.TTrue, api.TFalse:
		return 0, true
	case api.TNot, api.TNext, api.TAll, api.TSome:
		return 1, true
	case api.TAnd, api.TOr, api.TImp, api.TUntil, api.TFree:
		return 2, true
	}
	return 0, false
}

// The rules of the grammar, from the one that binds its parts the least.
const (
	prop = iota
	or
	and
	bin
	un
)

// wanted are the rules that the grammar has in the place of each kid of a kind.
var wanted = [...][2]int{
	api.TNot: {un}, api.TNext: {un}, api.TAll: {un}, api.TSome: {un},
	api.TAnd: {and, bin}, api.TOr: {or, and}, api.TImp: {or, prop}, api.TUntil: {un, bin}, api.TFree: {un, bin},
}

// ruleOf returns the rule by which a kind is parsed.
func ruleOf(kind int) int {
	switch kind {
	case api.TImp:
		return prop
	case api.TOr:
		return or
	case api.TAnd:
		return and
	case api.TUntil, api.TFree:
		return bin
	}
	return un
}

// enclosed reports whether the text of a kid, the one with index i, is put in
// parentheses.
func enclosed(kind, kid, i int) bool {
	return ruleOf(kid) < wanted[kind][i]
}
