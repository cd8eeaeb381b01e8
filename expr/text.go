package expr

import (
	"strings"

	"plumbline/api"
)

// SumText returns a sum as text, or "" if it is not valid.
func SumText(ms []api.Mono) string {
	if !RightSum(ms) {
		return ""
	}
	var text strings.Builder
	writeSum(&text, ms)
	return text.String()
}

// CompareText returns a comparison as text, or "" if it is not valid.
func CompareText(t api.Tree) string {
	if !Compares(t) {
		return ""
	}
	return Text(t)
}

// Text returns a condition as text, or "" if it is not valid.
func Text(t api.Tree) string {
	if !Right(t) {
		return ""
	}
	var text strings.Builder
	write(&text, t)
	return text.String()
}

func write(text *strings.Builder, t api.Tree) {
	switch t.Kind {
	case api.TTrue:
		text.WriteString("true")
	case api.TFalse:
		text.WriteString("false")
	case api.TCmp:
		writeSum(text, t.L)
		text.WriteString(" " + operators[t.Op] + " ")
		writeSum(text, t.R)
	case api.TNot:
		text.WriteString("!")
		writeKid(text, t, 0)
	case api.TAnd:
		writeBoth(text, t, " & ")
	case api.TOr:
		writeBoth(text, t, " | ")
	}
}

func writeBoth(text *strings.Builder, t api.Tree, between string) {
	writeKid(text, t, 0)
	text.WriteString(between)
	writeKid(text, t, 1)
}

func writeKid(text *strings.Builder, t api.Tree, i int) {
	kid := t.Kids[i]
	if !enclosed(t.Kind, kid.Kind, i) {
		write(text, kid)
		return
	}
	text.WriteString("(")
	write(text, kid)
	text.WriteString(")")
}

func writeSum(text *strings.Builder, ms []api.Mono) {
	for i, m := range ms {
		text.WriteString(signOf(m, i == 0))
		text.WriteString(m.Num)
		if m.Num != "" && m.Var != "" {
			text.WriteString("*")
		}
		text.WriteString(m.Var)
	}
}

// signOf returns what stands in front of a mono.
func signOf(m api.Mono, first bool) string {
	switch {
	case first && m.Neg:
		return "-"
	case first:
		return ""
	case m.Neg:
		return " - "
	}
	return " + "
}
