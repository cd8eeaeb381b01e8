package model_test

import (
	"fmt"
	"reflect"
	"slices"
	"strings"
	"testing"

	"plumbline/api"
	"plumbline/expr"
	"plumbline/logic"
	"plumbline/model"
	"plumbline/term"
	"plumbline/zint"
)

// shown tells all of a system but its copies of the processes.
func shown(s api.Sys) string {
	text := ""
	for i, b := range s.Bounds {
		text += fmt.Sprintf("%s %v %s %s; ", s.Vars[i], b.Is, zint.Text(b.Lo), zint.Text(b.Hi))
	}
	text += fmt.Sprintf("%d bounds of %d; %s", len(s.Bounds), len(s.Vars), logic.Text(s.Init, s.Vars))
	for _, a := range s.Acts {
		text += fmt.Sprintf("; %d: %d -> %d : %s", a.Proc, a.From, a.To, logic.Text(a.Guard, s.Vars))
		for _, m := range a.Moves {
			text += fmt.Sprintf(" / %d %v %s", m.V, m.Any, term.Text(m.T, s.Vars))
		}
	}
	return text
}

func TestP12_1System(t *testing.T) {
	for _, c := range []struct{ s, want string }{
		{"init true; proc p loc a; end", "0 bounds of 0; true"},
		{"var x in 0 .. 3; init x = 0; proc p loc a, b; a -> b : x < 3 / x := x + 1; end", "x true 0 3; 1 bounds of 1; x = 0; 0: 0 -> 1 : -x + 2 >= 0 / 0 false x + 1"},
		{"var z; var y, x in -0 .. 7; var u in - 9 .. -9; init false; proc p loc a; end", "z false 0 0; y true 0 7; x true 0 7; u true -9 -9; 4 bounds of 4; false"},
		{"init 1 < 2; proc p loc a, b, c; c -> a; a -> c : false; b -> b : true; end", "0 bounds of 0; 0 >= 0; 0: 2 -> 0 : true; 0: 0 -> 2 : false; 0: 1 -> 1 : true"},
		{"var x, y, z; init true; proc p loc a; a -> a / z := 1, x := *, y := z - x; a -> a / y := *; end", "x false 0 0; y false 0 0; z false 0 0; 3 bounds of 3; true; 0: 0 -> 0 : true / 0 true 0 / 1 false -x + z / 2 false 1; 0: 0 -> 0 : true / 1 true 0"},
		{"var x; init true; proc p loc a; end proc q loc b, a; a -> b; b -> a / x := 2*x - 2*x - 0; end proc r loc a; a -> a; end", "x false 0 0; 1 bounds of 1; true; 1: 1 -> 0 : true; 1: 0 -> 1 : true / 0 false 0; 2: 0 -> 0 : true"},
		{"var x, y; init x = 1 & !(y != 2 | x >= 0); proc p loc a; a -> a : x > y & true; end", "x false 0 0; y false 0 0; 2 bounds of 2; (x - 1 = 0 & !((!(y - 2 = 0) | x >= 0))); 0: 0 -> 0 : (x - y - 1 >= 0 & true)"},
		{"var x in -" + sixty + " .. " + sixty + "; init x = " + sixty + "; proc p loc a; end", "x true -" + sixty + " " + sixty + "; 1 bounds of 1; x - " + sixty + " = 0"},
	} {
		m, _, e := model.Parse(c.s)
		s, ok := model.System(m)
		if e != api.OK || !ok {
			t.Errorf("%s: %s, %v", c.s, codes[e], ok)
		}
		expect(t, c.s, shown(s), c.want)
		expect(t, c.s, told(s.Procs), told(m.Procs))
	}
}

// resolved is what the chapter's words say of a valid model.
func resolved(m api.Model) api.Sys {
	s := api.Sys{Procs: m.Procs}
	for _, d := range m.Decls {
		for _, name := range d.Names {
			b := api.Bound{Is: d.Ranged}
			if d.Ranged {
				b.Lo, _ = zint.Parse(d.Lo)
				b.Hi, _ = zint.Parse(d.Hi)
			}
			s.Vars, s.Bounds = append(s.Vars, name), append(s.Bounds, b)
		}
	}
	s.Init, _ = expr.Form(m.Init, s.Vars)
	for i, p := range m.Procs {
		for _, c := range p.Cmds {
			a := api.Act{Proc: i, From: slices.Index(p.Locs, c.From), To: slices.Index(p.Locs, c.To)}
			a.Guard, _ = expr.Form(c.Guard, s.Vars)
			for v, name := range s.Vars {
				for _, x := range c.Sets {
					if x.Var == name {
						e, _ := expr.Term(x.E, s.Vars)
						a.Moves = append(a.Moves, api.Move{V: v, Any: x.Any, T: e})
					}
				}
			}
			s.Acts = append(s.Acts, a)
		}
	}
	return s
}

func TestP12_1SystemOfModels(t *testing.T) {
	acts := 0
	for _, m := range append(rightModels(), models(1000)...) {
		s, ok := model.System(m)
		if !ok {
			t.Fatalf("%s is not resolved", told(m))
		}
		expect(t, told(m), told(s), told(resolved(m)))
		acts += len(s.Acts)
	}
	if acts < 3000 {
		t.Errorf("only %d acts", acts)
	}
}

// scribble overwrites all numbers and texts in the memory of slices.
func scribble(v reflect.Value) {
	switch v.Kind() {
	case reflect.Struct:
		for i := range v.NumField() {
			scribble(v.Field(i))
		}
	case reflect.Slice:
		for i := range v.Cap() {
			scribble(v.Slice(0, v.Cap()).Index(i))
		}
	case reflect.String:
		v.SetString("scribble")
	case reflect.Bool:
		v.SetBool(!v.Bool())
	case reflect.Int:
		v.SetInt(v.Int() + 1)
	case reflect.Uint32:
		v.SetUint(v.Uint() + 1)
	}
}

// TestP12_3Memory: what is done with the model afterwards does not change the system,
// nor the other way round, nor one part of the system another.
func TestP12_3Memory(t *testing.T) {
	for _, text := range []string{printed(sample()), "var x, y, z in 3 .. 4; init x = 7 | !(y < 8); proc p loc a, b; b -> a : !(x = 5 & (y < 6 | false)) / z := y + 9, y := *; end proc q loc c; end"} {
		m, _, _ := model.Parse(text)
		before := told(m)
		s, _ := model.System(m)
		want := told(s)
		expect(t, text, told(m), before)
		scribble(reflect.ValueOf(&m).Elem())
		expect(t, text, told(s), want)
		m, _, _ = model.Parse(text)
		s, _ = model.System(m)
		scribble(reflect.ValueOf(&s).Elem())
		expect(t, text, told(m), before)
		again, _ := model.System(m)
		expect(t, text, told(again), want)
		for i := range reflect.TypeOf(s).NumField() {
			expectApart(t, again, i)
		}
	}
	m, _, _ := model.Parse("var x, y in 3 .. 4; init true; proc p loc a; end")
	s, _ := model.System(m)
	scribble(reflect.ValueOf(&s.Bounds[0]).Elem())
	expect(t, "the second bound", strings.Join([]string{zint.Text(s.Bounds[1].Lo), zint.Text(s.Bounds[1].Hi)}, " "), "3 4")
}

// expectApart overwrites a field of a system, and expects that others stay as they are.
func expectApart(t *testing.T, s api.Sys, field int) {
	t.Helper()
	others := func() string {
		text := ""
		for i := range reflect.TypeOf(s).NumField() {
			if i != field {
				text += tell(reflect.ValueOf(s).Field(i))
			}
		}
		return text
	}
	before := others()
	scribble(reflect.ValueOf(&s).Elem().Field(field))
	expect(t, fmt.Sprint("field ", field), others(), before)
}
