package ltl

import (
	"strings"

	"plumbline/api"
	"plumbline/expr"
)

// signs are what is written in front of the kid of each kind with one kid, and between
// the kids of each kind with two.
var signs = [...]string{
	api.TNot: "!", api.TNext: "X ", api.TAll: "G ", api.TSome: "F ",
	api.TAnd: " & ", api.TOr: " | ", api.TImp: " -> ", api.TUntil: " U ", api.TFree: " R ",
}

// Text returns a property as text, or "" if it is not valid.
func Text(t api.Tree) string {
	if !Right(t) {
		return ""
	}
	var text strings.Builder
	write(&text, t)
	return text.String()
}

func write(text *strings.Builder, t api.Tree) {
	switch t.Kind {
	case api.TTrue:
		text.WriteString("true")
	case api.TFalse:
		text.WriteString("false")
	case api.TCmp:
		text.WriteString(expr.CompareText(t))
	case api.TAt:
		text.WriteString("@" + t.Proc + "." + t.Loc)
	}
	for i, kid := range t.Kids {
		if i > 0 || len(t.Kids) == 1 {
			text.WriteString(signs[t.Kind])
		}
		writeKid(text, kid, enclosed(t.Kind, kid.Kind, i))
	}
}

func writeKid(text *strings.Builder, kid api.Tree, enclosed bool) {
	if !enclosed {
		write(text, kid)
		return
	}
	text.WriteString("(")
	write(text, kid)
	text.WriteString(")")
}
