package rules

import (
	"testing"

	"plumbline/logic"
	"plumbline/rel"
	"plumbline/term"
)

// Layers 1 and 2 have such tests beside them.

func TestP3_4RulesOfTerm(t *testing.T) {
	checkAll(t, term.Plain, term.Number, term.Var, term.Add, term.Sub, term.Scale, term.Neg,
		term.Coef, term.Without, term.Vars, term.Has, term.Put, term.PutAll, term.Move, term.Value,
		term.Content, term.Shrink, term.Cmp, term.Same, term.Name, term.Text)
}

func TestP4_4RulesOfRel(t *testing.T) {
	checkAll(t, rel.Zero, rel.Least, rel.Tight, rel.Holds, rel.Deny, rel.Put, rel.PutAll, rel.Move, rel.Vars,
		rel.Cmp, rel.Same, rel.Tidy, rel.Text)
}

func TestP5_4RulesOfLogic(t *testing.T) {
	checkAll(t, logic.Of, logic.Truth, logic.Deny, logic.All, logic.Any, logic.Compare, logic.Holds, logic.Size,
		logic.Vars, logic.Flat, logic.PutAll, logic.Move, logic.Cubes, logic.Same, logic.Text)
}
