package cegar_test

import (
	"fmt"
	"math/rand"
	"slices"
	"strconv"
	"strings"
	"testing"

	"plumbline/api"
	"plumbline/expr"
	"plumbline/kripke"
	"plumbline/ltl"
	"plumbline/zint"
)

func expect(t *testing.T, what, got, want string) {
	t.Helper()
	if got != want {
		t.Errorf("%.600s:\n got %.1200s\nwant %.1200s", what, got, want)
	}
}

func one[T any](r *rand.Rand, all ...T) T { return all[r.Intn(len(all))] }

// names are those of the variables in texts.
var names = []string{"x", "y", "z", "u", "v"}

func integer(text string) int {
	n, err := strconv.Atoi(text)
	if err != nil {
		panic(text)
	}
	return n
}

func integers(text string) []int {
	var all []int
	for _, part := range strings.Fields(text) {
		all = append(all, integer(part))
	}
	return all
}

func number(text string) api.Int {
	n, e := zint.Parse(text)
	if e != api.OK {
		panic(text)
	}
	return n
}

func cond(text string) api.Form {
	tree, _, e := expr.ParseCond(text)
	f, ok := expr.Form(tree, names)
	if e != api.OK || !ok {
		panic(text)
	}
	return f
}

func sum(text string) api.Term {
	ms, _, e := expr.ParseSum(text)
	t, ok := expr.Term(ms, names)
	if e != api.OK || !ok {
		panic(text)
	}
	return t
}

// act reads an act: its process, "from>to", a Guard or none, and behind "/" its Moves,
// whose variables can also be numbers: "0 0>1 x < 3 / x := x + 1, -1 := *".
func act(text string) api.Act {
	text, sets, moves := strings.Cut(text, "/")
	parts := strings.SplitN(strings.TrimSpace(text), " ", 3)
	from, to, _ := strings.Cut(parts[1], ">")
	a := api.Act{Proc: integer(parts[0]), From: integer(from), To: integer(to)}
	if len(parts) > 2 {
		a.Guard = cond(parts[2])
	}
	if !moves {
		return a
	}
	for _, set := range strings.Split(sets, ",") {
		left, right, _ := strings.Cut(set, ":=")
		left, right = strings.TrimSpace(left), strings.TrimSpace(right)
		m := api.Move{V: slices.Index(names, left), Any: right == "*"}
		if m.V < 0 {
			m.V = integer(left)
		}
		if !m.Any {
			m.T = sum(right)
		}
		a.Moves = append(a.Moves, m)
	}
	return a
}

// system reads a system: how many locations each process has; the bound of each variable,
// "free" for one that is not set and "out" for none at all; Init; and the acts.
func system(text string) api.Sys {
	parts := strings.Split(text, ";")
	var s api.Sys
	for i, n := range integers(parts[0]) {
		p := api.Proc{Name: fmt.Sprint("p", i), Locs: make([]string, n)}
		copy(p.Locs, []string{"a", "b", "c", "d"})
		s.Procs = append(s.Procs, p)
	}
	for v, bound := range strings.Fields(parts[1]) {
		s.Vars = append(s.Vars, names[v])
		lo, hi, is := strings.Cut(bound, "..")
		if is {
			s.Bounds = append(s.Bounds, api.Bound{Is: true, Lo: number(lo), Hi: number(hi)})
		} else if bound == "free" { // Lo and Hi are to be ignored
			s.Bounds = append(s.Bounds, api.Bound{Lo: number("1"), Hi: number("2")})
		}
	}
	s.Init = cond(parts[2])
	for _, part := range parts[3:] {
		s.Acts = append(s.Acts, act(part))
	}
	return s
}

// property reads a property of a system, whose processes are p0, p1 and so on, with
// locations a to d, and returns it with its atoms.
func property(s api.Sys, text string) (api.Ltl, []api.Prop) {
	tree, at, e := ltl.Parse(text, s)
	f, props, ok := ltl.Resolve(tree, s)
	if e != api.OK || !ok {
		panic(fmt.Sprint(text, at, e))
	}
	return f, props
}

// props reads atoms: "process@location", or a condition.
func props(text string) []api.Prop {
	var all []api.Prop
	for _, part := range strings.Split(text, ";") {
		part = strings.TrimSpace(part)
		if proc, loc, at := strings.Cut(part, "@"); at {
			all = append(all, api.Prop{At: true, Proc: integer(proc), Loc: integer(loc), F: cond("z = 99")})
		} else if part != "" {
			all = append(all, api.Prop{F: cond(part)})
		}
	}
	return all
}

// odd is an equal number in another form.
func odd(r *rand.Rand, n api.Int) api.Int {
	limbs := append(api.Nat(nil), n.Abs...)
	for range r.Intn(3) {
		limbs = append(limbs, 0)
	}
	return api.Int{Neg: n.Neg || zint.Sign(n) == 0 && r.Intn(2) == 0, Abs: limbs}
}

// small is a random number from -far to far.
func small(r *rand.Rand, far int) api.Int { return odd(r, zint.Of(int64(r.Intn(2*far+1)-far))) }

// randomTerm has at most two parts, of the first of several variables and of none.
func randomTerm(r *rand.Rand, vars, far int) api.Term {
	t := api.Term{K: small(r, far)}
	for range r.Intn(3) {
		v := r.Intn(vars+1) - 1
		if v < 0 && r.Intn(4) > 0 {
			v = vars - 1
		}
		t.Parts = append(t.Parts, api.Part{V: v, C: small(r, far)})
	}
	return t
}

func randomRel(r *rand.Rand, vars int) api.Rel {
	return api.Rel{T: randomTerm(r, vars, 2), Eq: r.Intn(3) == 0}
}

func randomForm(r *rand.Rand, vars, depth int) api.Form {
	f := api.Form{Kind: one(r, api.True, api.Atom, api.Atom, api.Atom, api.Atom, api.False, 6), R: randomRel(r, vars)}
	if depth > 0 {
		f.Kind = one(r, api.True, api.Atom, api.Atom, api.Not, api.And, api.Or)
		for range r.Intn(4) {
			f.Kids = append(f.Kids, randomForm(r, vars, depth-1))
		}
	}
	return f
}

func randomAct(r *rand.Rand, s api.Sys, beyond int) api.Act {
	vars := len(s.Vars) + beyond
	a := api.Act{Proc: r.Intn(max(len(s.Procs), 1)), From: r.Intn(2), To: r.Intn(2), Guard: randomForm(r, vars, r.Intn(2))}
	if r.Intn(3) > 0 {
		a.Guard = api.Form{}
	}
	if r.Intn(15) == 0 {
		*one(r, &a.Proc, &a.From, &a.To) = one(r, -1, 2, 3, 1<<62, -1<<62)
	}
	for range r.Intn(4) {
		if len(s.Vars) > 0 {
			a.Moves = append(a.Moves, api.Move{V: r.Intn(len(s.Vars)), Any: r.Intn(3) == 0, T: randomTerm(r, vars, 1)})
		}
	}
	if r.Intn(20) == 0 {
		a.Moves = append(a.Moves, api.Move{V: one(r, -1, len(s.Vars), 1<<62), Any: r.Intn(2) == 0})
	}
	return a
}

// randomSystem has at most two processes and two variables. With confined, these have
// bounds. Its formulas and terms can have more variables than the system, up to beyond.
func randomSystem(r *rand.Rand, confined bool, beyond int) api.Sys {
	var s api.Sys
	for range one(r, 0, 1, 1, 1, 2, 2) {
		s.Procs = append(s.Procs, api.Proc{Locs: make([]string, one(r, 1, 1, 2, 2, 2, 2, 3))})
	}
	s.Vars = make([]string, one(r, 0, 1, 1, 2, 2, 2))
	for range s.Vars {
		lo := r.Intn(4) - 2
		b := api.Bound{Is: confined || r.Intn(2) == 0, Lo: odd(r, zint.Of(int64(lo))), Hi: odd(r, zint.Of(int64(lo+one(r, 0, 1, 2, 3, 3, 3, -1))))}
		s.Bounds = append(s.Bounds, b)
	}
	s.Init = randomForm(r, len(s.Vars)+beyond, r.Intn(3))
	for range r.Intn(5) {
		s.Acts = append(s.Acts, randomAct(r, s, beyond))
	}
	return s
}

// fitting are all states that fit, with values from -far to far.
func fitting(s api.Sys, far int) []api.State {
	all := []api.State{{}}
	for _, p := range s.Procs {
		var longer []api.State
		for _, x := range all {
			for loc := range p.Locs {
				longer = append(longer, api.State{Locs: append(slices.Clone(x.Locs), loc)})
			}
		}
		all = longer
	}
	for range s.Vars {
		var longer []api.State
		for _, x := range all {
			for val := -far; val <= far; val++ {
				longer = append(longer, api.State{Locs: x.Locs, Vals: append(slices.Clone(x.Vals), zint.Of(int64(val)))})
			}
		}
		all = longer
	}
	return slices.DeleteFunc(all, func(x api.State) bool { return !kripke.Fits(s, x) })
}

func toldState(x api.State) string {
	text := strings.Trim(fmt.Sprint(x.Locs), "[]") + " /"
	for _, val := range x.Vals {
		text += " " + zint.Text(val)
	}
	return text
}

func toldRun(r api.Run) string {
	text := ""
	for _, x := range r.Stem {
		text += toldState(x) + "; "
	}
	text += "| "
	for _, x := range r.Cycle {
		text += toldState(x) + "; "
	}
	return text + fmt.Sprint("by ", r.Acts)
}

// randomProps are atoms about locations, and conditions.
func randomProps(r *rand.Rand, vars int) []api.Prop {
	var all []api.Prop
	for range 1 + r.Intn(3) {
		all = append(all, api.Prop{At: r.Intn(3) == 0, Proc: r.Intn(3) - r.Intn(2), Loc: r.Intn(3), F: randomForm(r, vars, r.Intn(2))})
	}
	return all
}

// randomLtl is a property of some atoms, of which the last one does not exist.
func randomLtl(r *rand.Rand, atoms, depth int) api.Ltl {
	if depth == 0 || r.Intn(6) == 0 {
		return api.Ltl{Kind: one(r, api.TCmp, api.TCmp, api.TCmp, api.TCmp, api.TCmp, api.TCmp, api.TTrue, api.TFalse, api.TAt, 13), Prop: r.Intn(atoms+1) - r.Intn(15)/14}
	}
	f := api.Ltl{Kind: one(r, api.TNot, api.TAnd, api.TOr, api.TImp, api.TNext, api.TAll, api.TAll, api.TSome, api.TSome, api.TUntil, api.TFree)}
	for range one(r, 2, 2, 2, 2, 2, 2, 1, 3) {
		f.Kids = append(f.Kids, randomLtl(r, atoms, depth-1))
	}
	return f
}
