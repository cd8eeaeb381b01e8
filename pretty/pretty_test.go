package pretty_test

import (
	"fmt"
	"math/rand"
	"strings"
	"testing"

	"plumbline/api"
	"plumbline/model"
	"plumbline/pretty"
)

func TestP13_1Text(t *testing.T) {
	x := api.Decl{Names: []string{"x"}}
	for _, c := range []struct {
		m    api.Model
		want string
	}{
		{api.Model{Procs: []api.Proc{{Name: "p", Locs: []string{"a"}}}}, "init true;\nproc p\n  loc a;\nend\n"},
		{api.Model{
			Decls: []api.Decl{{Names: []string{"x"}, Ranged: true, Lo: "0", Hi: "3"}}, Init: cond("x = 0"),
			Procs: []api.Proc{{Name: "p", Locs: []string{"a", "b"}, Cmds: []api.Cmd{{From: "a", To: "b", Guard: cond("x < 3"), Sets: []api.Set{{Var: "x", E: sum("x + 1")}}}}}},
		}, "var x in 0 .. 3;\ninit x = 0;\nproc p\n  loc a, b;\n  a -> b : x < 3 / x := x + 1;\nend\n"},
		{api.Model{
			Decls: []api.Decl{x, {Names: []string{"y", "z", "u"}}, {Names: []string{"v", "w"}, Ranged: true, Lo: "-0", Hi: "0"}, {Names: []string{"o"}, Ranged: true, Lo: "-12", Hi: "-7"}}, Init: cond("false"),
			Procs: []api.Proc{{Name: "x", Locs: []string{"x"}}, {Name: "y", Locs: []string{"a", "x", "y"}}},
		}, "var x;\nvar y, z, u;\nvar v, w in -0 .. 0;\nvar o in -12 .. -7;\ninit false;\nproc x\n  loc x;\nend\nproc y\n  loc a, x, y;\nend\n"},
		{api.Model{
			Decls: []api.Decl{x, {Names: []string{"y"}}}, Init: cond("(x = 1 | y = 2) & !(x = 1 & 3*y < -2)"),
			Procs: []api.Proc{{Name: "p", Locs: []string{"b", "a"}, Cmds: []api.Cmd{
				{From: "a", To: "a"}, {From: "a", To: "b", Guard: cond("false")}, {From: "b", To: "a", Sets: []api.Set{{Var: "y", Any: true}}}, {From: "b", To: "b", Guard: cond("!true | x > y - 1")},
				{From: "a", To: "a", Sets: []api.Set{{Var: "y", E: sum("-2*x - y + 0")}, {Var: "x", Any: true}}}, {From: "a", To: "b", Guard: cond("x != 1 & (x = 2 & y = 3)"), Sets: []api.Set{{Var: "x", Any: true}, {Var: "y", E: sum("-0")}}},
			}}},
		}, "var x;\nvar y;\ninit (x = 1 | y = 2) & !(x = 1 & 3*y < -2);\nproc p\n  loc b, a;\n  a -> a;\n  a -> b : false;\n  b -> a / y := *;\n  b -> b : !true | x > y - 1;\n  a -> a / y := -2*x - y + 0, x := *;\n  a -> b : x != 1 & (x = 2 & y = 3) / x := *, y := -0;\nend\n"},
	} {
		expect(t, told(c.m), pretty.Text(c.m), c.want)
	}
	for _, text := range texts(1000) {
		expect(t, text, pretty.Text(parsed(t, text)), text)
	}
}

// wrongModels are not valid.
func wrongModels(t *testing.T) []api.Model {
	var all []api.Model
	for _, change := range []func(m *api.Model){
		func(m *api.Model) { *m = api.Model{} },
		func(m *api.Model) { m.Procs = nil },
		func(m *api.Model) { m.Decls[0].Names = nil },
		func(m *api.Model) { m.Decls[0].Names[0] = "y" },
		func(m *api.Model) { m.Decls[0].Names[0] = "in" },
		func(m *api.Model) { m.Decls[1].Lo = "3" },
		func(m *api.Model) { m.Decls[0].Lo = "4" },
		func(m *api.Model) { m.Decls[0].Lo = "- 1" },
		func(m *api.Model) { m.Init = cond("u = 1") },
		func(m *api.Model) { m.Init.Op++ },
		func(m *api.Model) { m.Init.Kids = m.Init.Kids[:1] },
		func(m *api.Model) { m.Procs[0].Name = "" },
		func(m *api.Model) { m.Procs[0].Locs = nil },
		func(m *api.Model) { m.Procs[0].Locs[1] = "a" },
		func(m *api.Model) { m.Procs[0].Cmds[0].To = "c" },
		func(m *api.Model) { m.Procs[0].Cmds[0].Guard = cond("x = p") },
		func(m *api.Model) { m.Procs[0].Cmds[0].Guard.Loc = "a" },
		func(m *api.Model) { m.Procs[0].Cmds[1].Guard.Op = 1 },
		func(m *api.Model) { m.Procs[0].Cmds[1].Guard.L = sum("x") },
		func(m *api.Model) { m.Procs[0].Cmds[0].Sets[0].Any = true },
		func(m *api.Model) { m.Procs[0].Cmds[0].Sets[0].E = nil },
		func(m *api.Model) { m.Procs[0].Cmds[0].Sets[1].E = sum("1") },
		func(m *api.Model) { m.Procs[0].Cmds[0].Sets[1].Var = "x" },
		func(m *api.Model) {
			for range 32 {
				m.Procs[0].Cmds = append(m.Procs[0].Cmds, m.Procs[0].Cmds[1])
			}
		},
	} {
		m := parsed(t, "var x in 0 .. 3; var y; init x = 0 & y = 1; proc p loc a, b; a -> b : x < 3 / x := x + 1, y := *; b -> a; end")
		change(&m)
		all = append(all, m)
	}
	return all
}

func TestP13_1TextOfWrongModels(t *testing.T) {
	for _, m := range wrongModels(t) {
		expect(t, told(m), pretty.Text(m), "")
		expect(t, told(m), told(model.Right(m)), "false")
	}
}

// TestP13_2TextIsParsedBack: also of texts that are not as Text prints them.
func TestP13_2TextIsParsedBack(t *testing.T) {
	r := rand.New(rand.NewSource(3))
	for _, text := range texts(1000) {
		m := parsed(t, text)
		expect(t, text, told(parsed(t, pretty.Text(m))), told(m))
		other := loose(r, text)
		again := parsed(t, other)
		expect(t, other, told(again), told(m))
		expect(t, other, pretty.Text(again), text)
	}
	full := fullModel(8, 16)
	expect(t, "a full model", told(parsed(t, pretty.Text(full))), told(full))
}

// fullModel has so many variables and processes, with as many locations and
// commands as there can be.
func fullModel(procs, vars int) api.Model {
	var m api.Model
	for i := range vars {
		m.Decls = append(m.Decls, api.Decl{Names: []string{fmt.Sprint("v", i)}, Ranged: i%2 == 0})
		if i%2 == 0 {
			m.Decls[i].Lo, m.Decls[i].Hi = fmt.Sprint(-i), fmt.Sprint(i)
		}
	}
	for i := range procs {
		p := api.Proc{Name: fmt.Sprint("p", i)}
		for j := range 16 {
			p.Locs = append(p.Locs, fmt.Sprint("l", j))
		}
		for j := range 32 {
			p.Cmds = append(p.Cmds, api.Cmd{From: p.Locs[j%16], To: p.Locs[j/2], Guard: cond([]string{"true", "v0 = 1"}[j%2])})
			if j%4 == 0 {
				p.Cmds[j].Sets = []api.Set{{Var: "v1", E: sum("v0 + 1")}}
			}
		}
		m.Procs = append(m.Procs, p)
	}
	return m
}

// TestP13_2LongText: a text can be longer than one that is parsed.
func TestP13_2LongText(t *testing.T) {
	m := fullModel(1, 2)
	m.Init = cond("true")
	for n := 0; n < 2000; n++ {
		m.Init = api.Tree{Kind: api.TAnd, Kids: []api.Tree{m.Init, cond("v1 < 10")}}
	}
	text := pretty.Text(m)
	if _, _, e := model.Parse(text); e != api.ErrLong || len(text) <= api.MaxText || !model.Right(m) {
		t.Errorf("%d bytes, error %d", len(text), e)
	}
	expect(t, "a long text", text, strings.Replace(pretty.Text(fullModel(1, 2)), "init true", "init true"+strings.Repeat(" & v1 < 10", 2000), 1))
}

// TestP13_3SameText: models that differ have different texts.
func TestP13_3SameText(t *testing.T) {
	base := "var x in 0 .. 3;\nvar y, z;\ninit x = 0 & y = 1 & z = 1;\nproc p\n  loc a, b;\n  a -> b : x < 3 / x := x + 1, y := *;\n  b -> a;\nend\nproc q\n  loc a;\nend\n"
	all := map[string]string{}
	add := func(text string) {
		m := parsed(t, text)
		printed := pretty.Text(m)
		if known, ok := all[printed]; ok && known != told(m) {
			t.Errorf("two models have the text %s", printed)
		}
		all[printed] = told(m)
	}
	add(base)
	changes := []string{
		"0 .. 3", "-0 .. 3", "0 .. 3", "0 .. 4", "x in 0 .. 3", "x", "y, z", "z, y", "y, z", "y;\nvar z", "y, z", "y, z in 0 .. 3", "x = 0 & y = 1 & z = 1", "x = 0 & (y = 1 & z = 1)", "x = 0 & y = 1 & z = 1", "x = 0 & y = 1 | z = 1", "y = 1", "1 = y", "y = 1", "1*y = 1", "y = 1", "y + 0 = 1", "y = 1", "!y = 1", "y = 1", "!!y = 1",
		"x = 0 &", "true & x = 0 &", "proc p", "proc r", "proc q", "proc r", "loc a, b", "loc b, a", "loc a;", "loc b;", "a -> b", "b -> b", "b -> a;", "b -> a : false;", "b -> a;", "b -> a : !false;", "b -> a;", "b -> b;", "b -> a;", "b -> a / z := *;", "  b -> a;\n", "", "  b -> a;\n", "  b -> a;\n  b -> a;\n",
		"x < 3", "x < -3", "x < 3", "x <= 3", " : x < 3", "", "x + 1", "x - 1", "x + 1", "x + 1*1", "x + 1", "1 + x", "x + 1", "*", "x + 1, y := *", "*, y := x + 1", "x := x + 1, y := *", "y := *, x := x + 1", ", y := *", "", " / x := x + 1, y := *", "",
	}
	for i := 0; i < len(changes); i += 2 {
		text := strings.Replace(base, changes[i], changes[i+1], 1)
		if strings.Contains(text, "1*1") || text == base {
			continue // no model
		}
		add(text)
	}
	if len(all) < 35 {
		t.Errorf("only %d models differ", len(all))
	}
	for _, text := range texts(2000) {
		add(text)
	}
}

// TestP13_3OtherGuards: the one thing that can be said in two ways.
func TestP13_3OtherGuards(t *testing.T) {
	short, long := "init true; proc p loc a; a -> a; end", "init true; proc p loc a; a -> a : true; end"
	expect(t, long, pretty.Text(parsed(t, long)), pretty.Text(parsed(t, short)))
	expect(t, long, told(parsed(t, long)), told(parsed(t, short)))
}
