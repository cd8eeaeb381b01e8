package expr

import (
	"slices"

	"plumbline/api"
	"plumbline/lex"
)

// RightSum reports whether a sum is valid.
func RightSum(ms []api.Mono) bool {
	wrong := func(m api.Mono) bool { return !rightMono(m) }
	return len(ms) >= 1 && len(ms) <= api.MaxParts && !slices.ContainsFunc(ms, wrong)
}

func rightMono(m api.Mono) bool {
	if m.Num == "" && m.Var == "" {
		return false
	}
	return (m.Num == "" || lex.Number(m.Num)) && (m.Var == "" || lex.Name(m.Var))
}

// Bare reports whether all fields of t except Kind and Kids are zero.
func Bare(t api.Tree) bool {
	return len(t.L) == 0 && len(t.R) == 0 && t.Op == 0 && t.Proc == "" && t.Loc == ""
}

// Compares reports whether t is a valid comparison.
func Compares(t api.Tree) bool {
	others := t.Proc == "" && t.Loc == "" && len(t.Kids) == 0
	operator := t.Op >= 0 && t.Op < len(operators)
	return t.Kind == api.TCmp && others && operator && RightSum(t.L) && RightSum(t.R)
}

// Right reports whether a condition is valid.
func Right(t api.Tree) bool {
	return rightWithin(t, api.MaxDepth)
}

// rightWithin reports whether a condition is valid and has at most so many levels.
func rightWithin(t api.Tree, levels int) bool {
	if t.Kind == api.TCmp {
		return Compares(t)
	}
	n, ok := kidsOf(t.Kind)
	if !ok || len(t.Kids) != n || !Bare(t) {
		return false
	}
	if t.Kind == api.TNot {
		levels--
	}
	for i, kid := range t.Kids {
		within := levels
		if enclosed(t.Kind, kid.Kind, i) {
			within--
		}
		if within < 0 || !rightWithin(kid, within) {
			return false
		}
	}
	return true
}

// kidsOf returns the number of kids of a kind other than TCmp, or false if it is
// not that of a condition.
func kidsOf(kind int) (int, bool) {
	switch kind {
	case api.TTrue, api.TFalse:
		return 0, true
	case api.TNot:
		return 1, true
	case api.TAnd, api.TOr:
		return 2, true
	}
	return 0, false
}

// enclosed reports whether the text of a kid, the one with index i, is put in
// parentheses.
func enclosed(kind, kid, i int) bool {
	switch kid {
	case api.TOr:
		return kind != api.TOr || i > 0
	case api.TAnd:
		return kind == api.TNot || kind == api.TAnd && i > 0
	}
	return false
}
