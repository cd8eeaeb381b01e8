package model_test

import (
	"fmt"
	"math"
	"math/rand"
	"slices"
	"strings"
	"testing"

	"plumbline/api"
	"plumbline/expr"
	"plumbline/model"
)

// sample is a valid model with something of everything.
func sample() api.Model {
	return api.Model{
		Decls: []api.Decl{decl("x y", "-3", "5"), decl("z")},
		Init:  of(api.TAnd, is("x", "1"), of(api.TNot, is("z", "2"))),
		Procs: []api.Proc{
			proc("p", "a b", cmd("a", "b", is("y", "2"), set("y", plus("", "z"), minus("2", "x")), free("x")), cmd("b", "b", of(0))),
			proc("q", "c", cmd("c", "c", of(0), set("z", plus("1", "")))),
		},
	}
}

// spoiled are samples, each with one change.
func spoiled(changes ...func(*api.Model)) []api.Model {
	var all []api.Model
	for _, change := range changes {
		m := sample()
		change(&m)
		all = append(all, m)
	}
	return all
}

// wrongNames are not valid.
var wrongNames = []string{
	"", "true", "false", "var", "in", "init", "proc", "loc", "end", "X", "G", "_x", "1", "1x", " x", "x ", "x y", "x, y", "x\n", "x-1", "é", "\xff", "x\x00", "X1", "xX", "x;", "x#",
	strings.Repeat("x", 21), "p@a", "-x", "*",
}

func wrongOfNames() []api.Model {
	var all []api.Model
	for _, n := range wrongNames {
		all = append(all, spoiled(
			func(m *api.Model) { m.Decls[0].Names[1] = n },
			func(m *api.Model) { m.Decls[1].Names = append(m.Decls[1].Names, n) },
			func(m *api.Model) { m.Procs[1].Name = n },
			func(m *api.Model) { m.Procs[1].Locs = append(m.Procs[1].Locs, n) },
			func(m *api.Model) { m.Procs[0].Cmds[1].From = n },
			func(m *api.Model) { m.Procs[0].Cmds[1].To = n },
			func(m *api.Model) { m.Procs[0].Cmds[0].Sets[1].Var = n },
			func(m *api.Model) { m.Procs[0].Cmds[0].Sets[0].E[0].Num, m.Procs[0].Cmds[0].Sets[0].E[0].Var = "", n },
			func(m *api.Model) { m.Init.Kids[0] = is(n, "1") },
			func(m *api.Model) { // even where it is declared
				m.Decls[1].Names[0] = n
				m.Init, m.Procs[0].Cmds, m.Procs[1].Cmds[0].Sets[0].Var = of(0), nil, n
			},
			func(m *api.Model) {
				m.Procs[1].Locs[0], m.Procs[1].Cmds[0].From, m.Procs[1].Cmds[0].To = n, n, n
			},
		)...)
	}
	return all
}

func wrongOfDecls() []api.Model {
	all := spoiled(
		func(m *api.Model) { m.Decls[1].Names = nil },
		func(m *api.Model) { m.Decls = append(m.Decls, api.Decl{}) },
		func(m *api.Model) { m.Decls = append(m.Decls, decl("", "0", "1")) },
		func(m *api.Model) { m.Decls[0].Names[1] = "x" },
		func(m *api.Model) { m.Decls[1].Names = []string{"z", "y"} },
		func(m *api.Model) { m.Decls = append(m.Decls, decl("x")) },
		func(m *api.Model) { m.Decls = append(m.Decls, api.Decl{Names: counted(14, "v")}) },
		func(m *api.Model) {
			for _, n := range counted(14, "v") {
				m.Decls = append(m.Decls, decl(n))
			}
		},
		func(m *api.Model) { m.Decls[1].Lo = "0" },
		func(m *api.Model) { m.Decls[1].Hi = "0" },
		func(m *api.Model) { m.Decls[1].Lo, m.Decls[1].Hi = "0", "3" },
		func(m *api.Model) { m.Decls[0].Ranged = false },
		func(m *api.Model) { m.Decls[1].Ranged = true },
		func(m *api.Model) { m.Decls = nil },
		func(m *api.Model) { m.Decls = m.Decls[:1] },
	)
	for _, wrong := range []string{
		"", "-", "--3", "- 3", "+3", " 3", "3 ", "03", "-03", "00", "-00", "x", "3x", "0x1", "1.0", "3-", "1_0", "\xff", "٣", "-" + strings.Repeat("1", 61), "−3",
	} {
		all = append(all, spoiled(
			func(m *api.Model) { m.Decls[0].Lo = wrong },
			func(m *api.Model) { m.Decls[0].Hi = wrong },
			func(m *api.Model) { m.Decls[0].Lo, m.Decls[0].Hi = wrong, wrong },
		)...)
	}
	for _, c := range [][2]string{
		{"3", "2"}, {"6", "5"}, {"1", "-1"}, {"1", "-0"}, {"0", "-1"}, {"-0", "-1"}, {"-2", "-3"}, {"-9", "-10"}, {"10", "9"}, {"100", "99"}, {sixty, sixty[:59]}, {"-" + sixty[:59], "-" + sixty}, {sixty[:59] + "1", sixty},
	} {
		all = append(all, spoiled(func(m *api.Model) { m.Decls[0].Lo, m.Decls[0].Hi = c[0], c[1] })...)
	}
	return append(all, spoiled(func(m *api.Model) { m.Decls[0].Hi = strings.Repeat("9", 61) })...)
}

func wrongOfProcs() []api.Model {
	return spoiled(
		func(m *api.Model) { m.Procs = nil },
		func(m *api.Model) { m.Procs = m.Procs[:0] },
		func(m *api.Model) { m.Procs[1].Name = "p" },
		func(m *api.Model) { m.Procs = append(m.Procs, m.Procs[0]) },
		func(m *api.Model) {
			for _, n := range counted(7, "r") {
				m.Procs = append(m.Procs, proc(n, "a"))
			}
		},
		func(m *api.Model) { m.Procs[1] = proc("q", "") },
		func(m *api.Model) { m.Procs = append(m.Procs, proc("r", "")) },
		func(m *api.Model) { m.Procs = append(m.Procs, api.Proc{}) },
		func(m *api.Model) { m.Procs[0].Locs = nil },
		func(m *api.Model) { m.Procs[1].Locs = []string{"c", "c"} },
		func(m *api.Model) { m.Procs[0].Locs = []string{"a", "b", "c", "a"} },
		func(m *api.Model) { m.Procs[0].Locs = append(m.Procs[0].Locs, counted(15, "l")...) },
		func(m *api.Model) { m.Procs[0].Cmds = slices.Repeat(m.Procs[0].Cmds[1:], 33) },
		func(m *api.Model) { m.Procs[1].Cmds = slices.Repeat(m.Procs[1].Cmds, 33) },
	)
}

func wrongOfCmds() []api.Model {
	all := spoiled(
		func(m *api.Model) { m.Procs[0].Cmds = append(m.Procs[0].Cmds, api.Cmd{}) },
		func(m *api.Model) { m.Procs[0].Cmds[0].From = "c" },
		func(m *api.Model) { m.Procs[0].Cmds[1].To = "c" },
		func(m *api.Model) { m.Procs[1].Cmds[0].From = "a" },
		func(m *api.Model) { m.Procs[1].Cmds[0].To = "q" },
		func(m *api.Model) { m.Procs[1].Cmds[0].To = "x" },
		func(m *api.Model) { m.Procs[0].Cmds[0].Sets[0].Var = "x" },
		func(m *api.Model) { m.Procs[0].Cmds[0].Sets[1].Var = "y" },
		func(m *api.Model) {
			m.Procs[1].Cmds[0].Sets = []api.Set{free("z"), free("x"), set("z", plus("1", ""))}
		},
		func(m *api.Model) { m.Procs[1].Cmds[0].Sets = append(m.Procs[1].Cmds[0].Sets, api.Set{}) },
		func(m *api.Model) { m.Procs[0].Cmds[0].Sets[1].E = many(1) },
		func(m *api.Model) { m.Procs[0].Cmds[0].Sets[1].E = []api.Mono{{}} },
		func(m *api.Model) { m.Procs[0].Cmds[0].Sets[0].Any = true },
		func(m *api.Model) { m.Procs[0].Cmds[0].Sets[1].Any = false },
		func(m *api.Model) { m.Procs[0].Cmds[0].Sets[0].E = nil },
		func(m *api.Model) { m.Procs[0].Cmds[0].Sets[0].E = many(65) },
	)
	for _, name := range []string{"a", "p", "u", "xx", "b", "q", "c", "v0", "?"} { // no variables
		all = append(all, spoiled(
			func(m *api.Model) { m.Init.Kids[1].Kids[0] = is(name, "2") },
			func(m *api.Model) { m.Init = cmp(sum(plus("1", "")), api.Lt, sum(plus("", "x"), minus("3", name))) },
			func(m *api.Model) { m.Procs[0].Cmds[1].Guard = is(name, "2") },
			func(m *api.Model) { m.Procs[1].Cmds[0].Guard = of(api.TOr, is("x", "1"), is(name, "2")) },
			func(m *api.Model) { m.Procs[0].Cmds[0].Sets[1].Var = name },
			func(m *api.Model) { m.Procs[1].Cmds[0].Sets[0].E = sum(plus("1", ""), plus("", name)) },
		)...)
	}
	for _, mono := range []api.Mono{{}, {Neg: true}, plus("01", ""), plus("-1", "x"), plus("", "X"), plus("2", "in"), plus("1 + 1", ""), plus(strings.Repeat("1", 61), "x")} {
		all = append(all, spoiled(
			func(m *api.Model) { m.Procs[0].Cmds[0].Sets[0].E[1] = mono },
			func(m *api.Model) { m.Init.Kids[0].L[0] = mono },
			func(m *api.Model) { m.Procs[0].Cmds[0].Guard.R[0] = mono },
		)...)
	}
	return all
}

func wrongOfConds() []api.Model {
	var all []api.Model
	x := is("x", "1")
	for _, wrong := range []api.Tree{
		of(-1), of(api.TCmp), of(api.TNot), of(api.TNot, x, x), of(api.TAnd, x), of(api.TAnd, x, x, x), of(api.TOr), of(api.TAt), of(api.TImp, x, x), of(api.TAll, x), of(api.TUntil, x, x), of(13), of(math.MaxInt), of(math.MinInt),
		{Op: 1}, {Proc: "p"}, {Loc: "a"}, {L: many(1)}, {R: many(1)}, of(api.TTrue, of(0)), {Kind: api.TFalse, Op: -1}, {Kind: api.TAt, Proc: "p", Loc: "a"}, {Kind: api.TCmp, L: many(1), R: many(1), Op: 6}, {Kind: api.TCmp, L: many(1), R: many(1), Op: -1},
		{Kind: api.TCmp, L: many(1), R: many(1), Proc: "p"}, {Kind: api.TCmp, L: many(1), R: many(1), Kids: []api.Tree{x}}, cmp(nil, 0, many(1)), cmp(many(1), 0, nil), cmp(many(65), 0, many(1)), denied(61, of(0)), of(api.TAnd, x, denied(61, x)), of(api.TAnd, x, of(api.TAnd, x, denied(60, x))),
	} {
		all = append(all, spoiled(
			func(m *api.Model) { m.Init = wrong },
			func(m *api.Model) { m.Init.Kids[1] = wrong },
			func(m *api.Model) { m.Procs[0].Cmds[0].Guard = wrong },
			func(m *api.Model) { m.Procs[1].Cmds[0].Guard = of(api.TNot, of(api.TOr, x, wrong)) },
		)...)
	}
	return all
}

// hugeModels are not valid.
func hugeModels() []api.Model {
	const n = 1 << 18
	return spoiled(
		func(m *api.Model) { m.Decls = make([]api.Decl, n) },
		func(m *api.Model) { m.Decls = slices.Repeat([]api.Decl{decl("v w")}, n) },
		func(m *api.Model) { m.Decls[1].Names = append(m.Decls[1].Names, counted(n, "v")...) },
		func(m *api.Model) { m.Procs = make([]api.Proc, n) },
		func(m *api.Model) { m.Procs = append(m.Procs, slices.Repeat([]api.Proc{proc("r", "a")}, n)...) },
		func(m *api.Model) { m.Procs[0].Locs = append(m.Procs[0].Locs, counted(n, "l")...) },
		func(m *api.Model) { m.Procs[1].Cmds = slices.Repeat(m.Procs[1].Cmds, n) },
		func(m *api.Model) { m.Procs[1].Cmds[0].Sets = slices.Repeat([]api.Set{free("z")}, n) },
		func(m *api.Model) { m.Procs[1].Cmds[0].Sets[0].E = many(n) },
		func(m *api.Model) { m.Decls[0].Names[0] = strings.Repeat("x", n) },
		func(m *api.Model) { m.Decls[0].Lo = "-" + strings.Repeat("9", n) },
	)
}

func wrongModels() []api.Model {
	all := []api.Model{{}, {Init: of(api.TFalse)}, {Decls: []api.Decl{decl("x")}}, {Procs: []api.Proc{{}}}}
	return slices.Concat(all, wrongOfNames(), wrongOfDecls(), wrongOfProcs(), wrongOfCmds(), wrongOfConds())
}

// rightModels are valid, and some at the limits.
func rightModels() []api.Model {
	all := append([]api.Model{sample(), least()}, spoiled(
		func(m *api.Model) { m.Decls[0].Lo, m.Decls[0].Hi = "5", "5" },
		func(m *api.Model) { m.Decls[0].Lo, m.Decls[0].Hi = "-0", "0" },
		func(m *api.Model) { m.Decls[0].Lo, m.Decls[0].Hi = "0", "-0" },
		func(m *api.Model) { m.Decls[0].Lo, m.Decls[0].Hi = "-10", "-9" },
		func(m *api.Model) { m.Decls[0].Lo, m.Decls[0].Hi = "9", "10" },
		func(m *api.Model) { m.Decls[0].Lo, m.Decls[0].Hi = "-"+sixty, "-"+sixty[:59] },
		func(m *api.Model) { m.Decls[0].Lo, m.Decls[0].Hi = sixty, sixty[:59]+"9" },
		func(m *api.Model) { m.Decls = append(m.Decls, api.Decl{Names: counted(13, "v")}) },
		func(m *api.Model) {
			for _, n := range counted(13, "v") {
				m.Decls = append(m.Decls, decl(n, "1", "1"))
			}
		},
		func(m *api.Model) {
			for _, n := range counted(6, "r") {
				m.Procs = append(m.Procs, proc(n, n))
			}
		},
		func(m *api.Model) { m.Procs[0].Locs = append(m.Procs[0].Locs, counted(14, "l")...) },
		func(m *api.Model) { m.Procs[0].Cmds = slices.Repeat(m.Procs[0].Cmds[1:], 32) },
		func(m *api.Model) { m.Procs[0].Cmds, m.Procs[1].Cmds = nil, []api.Cmd{} },
		func(m *api.Model) {
			m.Decls[1].Names[0], m.Init, m.Procs[1].Cmds = "p", of(api.TFalse), nil
			m.Procs[0].Cmds[0].Sets = nil
		},
		func(m *api.Model) { m.Decls = append(m.Decls, decl("p a c", "0", "0"), decl("q b")) },
		func(m *api.Model) { m.Procs[1].Locs = []string{"c", "a", "b", "x", "y", "p", "q"} },
		func(m *api.Model) { m.Procs[0].Cmds[0].Sets[0].E = append(many(63), plus(sixty, "z")) },
		func(m *api.Model) { m.Procs[0].Cmds[0].Sets[1].E = []api.Mono{} },
		func(m *api.Model) { m.Procs[0].Cmds[0].Sets = append(m.Procs[0].Cmds[0].Sets, free("z")) },
		func(m *api.Model) { m.Procs[0].Cmds[0].Guard = denied(60, of(0)) },
		func(m *api.Model) {
			m.Init = of(api.TAnd, is("x", "1"), of(api.TAnd, is("y", "1"), denied(59, is("x", "1"))))
		},
	)...)
	full := api.Model{Init: of(api.TTrue)}
	for _, n := range counted(16, "v") {
		full.Decls = append(full.Decls, decl(n))
	}
	for _, n := range counted(8, "p") {
		p := api.Proc{Name: n, Locs: counted(16, "l")}
		for i := range 32 {
			c := cmd(p.Locs[i%16], p.Locs[i/2], of(0))
			for _, v := range counted(16, "v") {
				c.Sets = append(c.Sets, set(v, plus("1", ""), plus("", v)))
			}
			p.Cmds = append(p.Cmds, c)
		}
		full.Procs = append(full.Procs, p)
	}
	return append(all, full) // its text would be too long
}

func expectRight(t *testing.T, m api.Model, want bool) {
	t.Helper()
	if got := model.Right(m); got != want {
		t.Errorf("Right(%.2000s) = %v", told(m), got)
	}
	s, ok := model.System(m)
	if ok != want || !ok && told(s) != told(api.Sys{}) {
		t.Errorf("System of %.2000s: %.200s, %v", told(m), told(s), ok)
	}
}

func TestP12_1Right(t *testing.T) {
	for _, m := range append(rightModels(), models(500)...) {
		expectRight(t, m, true)
	}
	for _, m := range append(wrongModels(), hugeModels()...) {
		expectRight(t, m, false)
	}
}

// TestP12_1RightByParsing: a model is valid exactly if a text that says all that it
// says is parsed to it.
func TestP12_1RightByParsing(t *testing.T) {
	r := rand.New(rand.NewSource(5))
	all := append(wrongModels(), rightModels()...)
	for _, m := range models(300) {
		all = append(all, m, mixed(r, m), mixed(r, mixed(r, m)), mixed(r, m), mixed(r, mixed(r, m)))
	}
	counts := map[bool]int{}
	for _, m := range all {
		text := printed(m)
		if len(text) > api.MaxText {
			continue
		}
		want := read(text) == told(m)
		expectRight(t, m, want)
		counts[want]++
	}
	if counts[true] < 500 || counts[false] < 500 {
		t.Errorf("%v", counts)
	}
}

// mixed is a model with a part of another one.
func mixed(r *rand.Rand, m api.Model) api.Model {
	other := randomModel(r)
	m = api.Model{Decls: slices.Clone(m.Decls), Init: m.Init, Procs: slices.Clone(m.Procs)}
	p, q := &m.Procs[r.Intn(len(m.Procs))], one(r, other.Procs...)
	switch r.Intn(12) {
	case 0:
		m.Decls = other.Decls
	case 1:
		m.Decls = append(m.Decls, other.Decls...)
	case 2:
		m.Init = other.Init
	case 3:
		m.Procs = append(m.Procs, q)
	case 4:
		p.Locs = q.Locs
	case 5:
		p.Cmds = q.Cmds
	case 6:
		p.Name = q.Name
	case 7:
		p.Cmds = append(slices.Clone(p.Cmds), q.Cmds...)
	case 8:
		p.Locs = append(slices.Clone(p.Locs), q.Locs[:1]...)
	case 9, 10:
		mixCmd(r, p, q)
	case 11:
		if len(m.Decls) > 0 {
			d := &m.Decls[r.Intn(len(m.Decls))]
			d.Ranged, d.Lo, d.Hi = r.Intn(2) == 0, one(r, "", "-3", "4", "01"), one(r, "", "3", "-4", "4")
		}
	}
	return m
}

// mixCmd changes a command of a process.
func mixCmd(r *rand.Rand, p *api.Proc, q api.Proc) {
	if len(p.Cmds) == 0 || len(q.Cmds) == 0 {
		return
	}
	p.Cmds = slices.Clone(p.Cmds)
	c, d := &p.Cmds[r.Intn(len(p.Cmds))], one(r, q.Cmds...)
	switch r.Intn(5) {
	case 0:
		c.From = d.From
	case 1:
		c.To = d.To
	case 2:
		c.Guard = d.Guard
	case 3:
		c.Sets = append(slices.Clone(c.Sets), d.Sets...)
	case 4:
		c.Sets = slices.Clone(c.Sets)
		for i := range c.Sets {
			c.Sets[i].Any = r.Intn(2) == 0
		}
	}
}

// TestP12_1RightOfLongModels: a model can be valid though its text would be too long.
func TestP12_1RightOfLongModels(t *testing.T) {
	m := sample()
	for range 1 << 14 {
		m.Init = of(api.TAnd, m.Init, is("x", "1"))
	}
	if _, ok := model.System(m); !ok || !model.Right(m) || len(expr.Text(m.Init)) <= api.MaxText {
		t.Error("a long condition is not valid")
	}
	m.Init.Kids[1] = is("u", "1")
	if _, ok := model.System(m); ok || model.Right(m) {
		t.Error("a long condition with another name is valid")
	}
}

// TestP12_2WhatIsParsed: it is valid and can be resolved.
func TestP12_2WhatIsParsed(t *testing.T) {
	for _, m := range append(rightModels(), models(500)...) {
		text := printed(m)
		if got, _, e := model.Parse(text); e == api.OK {
			expectRight(t, got, true)
			expectParsed(t, text)
		} else if len(text) <= api.MaxText {
			t.Errorf("%s: %s", text, codes[e])
		}
	}
	for _, s := range []string{"init true; proc p loc a; end", "var x in - 0 .. -0; init !x = -0; proc x loc x; x -> x : true / x := -0*x; end", "init 0 < 1; proc a loc b; b -> b : ((true)) ; end"} {
		m, _, e := model.Parse(s)
		if e != api.OK {
			t.Errorf("%s: %s", s, codes[e])
		}
		expectRight(t, m, true)
	}
}

func ExampleParse() {
	m, _, _ := model.Parse("var x in 0 .. 3; init x = 0; proc p loc a, b; a -> b / x := x + 1; end")
	fmt.Println(m.Decls, len(m.Procs), m.Procs[0].Locs)
	_, at, e := model.Parse("var x in 3 .. 2; ...")
	fmt.Println(at, e == api.ErrRange)
	// Output:
	// [{[x] true 0 3}] 1 [a b]
	// {1 15} true
}
