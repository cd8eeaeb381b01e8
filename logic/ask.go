package logic

import (
	"slices"
	"strings"

	"plumbline/api"
	"plumbline/rel"
)

// Holds reports whether f holds at the given values.
func Holds(f api.Form, vals []api.Int) bool {
	holds := func(kid api.Form) bool { return Holds(kid, vals) }
	fails := func(kid api.Form) bool { return !Holds(kid, vals) }
	switch f.Kind {
	case api.True:
		return true
	case api.Atom:
		return rel.Holds(f.R, vals)
	case api.Not:
		return slices.ContainsFunc(kidsOf(f), fails)
	case api.And:
		return !slices.ContainsFunc(f.Kids, fails)
	case api.Or:
		return slices.ContainsFunc(f.Kids, holds)
	}
	return false
}

// Size returns 1 plus the sizes of the kids that count.
func Size(f api.Form) int {
	size := 1
	for _, kid := range kidsOf(f) {
		size += Size(kid)
	}
	return size
}

// Vars returns the variables of all relations that count, in increasing order.
func Vars(f api.Form) []int {
	vs := addVars(nil, f)
	slices.Sort(vs)
	return slices.Compact(vs)
}

// addVars appends the variables of f's relations to vs.
func addVars(vs []int, f api.Form) []int {
	if f.Kind == api.Atom {
		return append(vs, rel.Vars(f.R)...)
	}
	for _, kid := range kidsOf(f) {
		vs = addVars(vs, kid)
	}
	return vs
}

// Same reports whether the copies of f and g have the same kinds, relations and
// kids.
func Same(f, g api.Form) bool {
	switch {
	case kindOf(f) != kindOf(g):
		return false
	case f.Kind == api.Atom:
		return rel.Same(f.R, g.R)
	}
	return slices.EqualFunc(kidsOf(f), kidsOf(g), Same)
}

// Text returns f in a form like "(x >= 0 & !(y = 0))".
func Text(f api.Form, names []string) string {
	var text strings.Builder
	write(&text, f, names)
	return text.String()
}

func write(text *strings.Builder, f api.Form, names []string) {
	switch f.Kind {
	case api.True:
		text.WriteString("true")
	case api.Atom:
		text.WriteString(rel.Text(f.R, names))
	case api.Not:
		text.WriteString("!")
		writeKids(text, f, "", names)
	case api.And:
		writeKids(text, f, " & ", names)
	case api.Or:
		writeKids(text, f, " | ", names)
	default:
		text.WriteString("false")
	}
}

func writeKids(text *strings.Builder, f api.Form, between string, names []string) {
	text.WriteString("(")
	for i, kid := range kidsOf(f) {
		if i > 0 {
			text.WriteString(between)
		}
		write(text, kid, names)
	}
	text.WriteString(")")
}
