package dfs_test

import (
	"fmt"
	"math/rand"
	"slices"
	"strconv"
	"strings"
	"testing"

	"plumbline/abstr"
	"plumbline/api"
	"plumbline/buchi"
	"plumbline/dfs"
	"plumbline/expr"
	"plumbline/gba"
	"plumbline/zint"
)

func expect(t *testing.T, what, got, want string) {
	t.Helper()
	if got != want {
		t.Errorf("%.600s:\n got %.1200s\nwant %.1200s", what, got, want)
	}
}

func one[T any](r *rand.Rand, all ...T) T { return all[r.Intn(len(all))] }

// names are those of the variables in texts. That of "far" is greater than Sat decides.
var names = append([]string{"x", "y", "z"}, append(make([]string, 70000), "far")...)

func integer(text string) int {
	n, err := strconv.Atoi(text)
	if err != nil {
		panic(text)
	}
	return n
}

func integers(text string) []int {
	var all []int
	for _, part := range strings.Fields(text) {
		all = append(all, integer(part))
	}
	return all
}

func number(text string) api.Int {
	n, e := zint.Parse(text)
	if e != api.OK {
		panic(text)
	}
	return n
}

func cond(text string) api.Form {
	tree, _, e := expr.ParseCond(text)
	f, ok := expr.Form(tree, names)
	if e != api.OK || !ok {
		panic(text)
	}
	return f
}

func sum(text string) api.Term {
	ms, _, e := expr.ParseSum(text)
	t, ok := expr.Term(ms, names)
	if e != api.OK || !ok {
		panic(text)
	}
	return t
}

// preds reads relations: "x >= 2; x + y = 3".
func preds(text string) []api.Rel {
	var all []api.Rel
	for _, part := range strings.Split(text, ";") {
		if strings.TrimSpace(part) != "" {
			all = append(all, cond(part).R)
		}
	}
	return all
}

// act reads an act: its process, "from>to", a Guard or none, and behind "/" its Moves,
// whose variables can also be numbers: "0 0>1 x < 3 / x := x + 1, -1 := *".
func act(text string) api.Act {
	text, sets, moves := strings.Cut(text, "/")
	parts := strings.SplitN(strings.TrimSpace(text), " ", 3)
	from, to, _ := strings.Cut(parts[1], ">")
	a := api.Act{Proc: integer(parts[0]), From: integer(from), To: integer(to)}
	if len(parts) > 2 {
		a.Guard = cond(parts[2])
	}
	if !moves {
		return a
	}
	for _, set := range strings.Split(sets, ",") {
		left, right, _ := strings.Cut(set, ":=")
		left, right = strings.TrimSpace(left), strings.TrimSpace(right)
		m := api.Move{V: strings.Index("xyz", left), Any: right == "*"}
		if m.V < 0 {
			m.V = integer(left)
		}
		if !m.Any {
			m.T = sum(right)
		}
		a.Moves = append(a.Moves, m)
	}
	return a
}

// system reads a system: how many locations each process has; the bound of each variable,
// "free" for one that is not set and "out" for none at all; Init; and the acts.
func system(text string) api.Sys {
	parts := strings.Split(text, ";")
	var s api.Sys
	for i, n := range integers(parts[0]) {
		s.Procs = append(s.Procs, api.Proc{Name: fmt.Sprint("p", i), Locs: make([]string, n)})
	}
	for v, bound := range strings.Fields(parts[1]) {
		s.Vars = append(s.Vars, names[v])
		lo, hi, is := strings.Cut(bound, "..")
		if is {
			s.Bounds = append(s.Bounds, api.Bound{Is: true, Lo: number(lo), Hi: number(hi)})
		} else if bound == "free" { // Lo and Hi are to be ignored
			s.Bounds = append(s.Bounds, api.Bound{Lo: number("1"), Hi: number("2")})
		}
	}
	s.Init = cond(parts[2])
	for _, part := range parts[3:] {
		s.Acts = append(s.Acts, act(part))
	}
	return s
}

// props reads atoms: "process@location", or a condition.
func props(text string) []api.Prop {
	var all []api.Prop
	for _, part := range strings.Split(text, ";") {
		part = strings.TrimSpace(part)
		if proc, loc, at := strings.Cut(part, "@"); at {
			all = append(all, api.Prop{At: true, Proc: integer(proc), Loc: integer(loc), F: cond("z = 99")})
		} else if part != "" {
			all = append(all, api.Prop{F: cond(part)})
		}
	}
	return all
}

func bits(text string) []bool {
	var all []bool
	for _, bit := range strings.TrimSpace(text) {
		all = append(all, bit == '+')
	}
	return all
}

// abstract reads an abstract state: its locations, "/", and its bits as "+" and "-".
func abstract(text string) abstr.Abs {
	locs, list, _ := strings.Cut(text, "/")
	return abstr.Abs{Locs: integers(locs), Bits: bits(list)}
}

func toldBits(all []bool) string {
	text := ""
	for _, bit := range all {
		text += map[bool]string{true: "+", false: "-"}[bit]
	}
	return text
}

// told is the opposite of abstract.
func told(a abstr.Abs) string {
	return strings.TrimSpace(strings.Trim(fmt.Sprint(a.Locs), "[]") + " /" + toldBits(a.Bits))
}

func toldAll(all []abstr.Abs) string {
	var parts []string
	for _, a := range all {
		parts = append(parts, told(a))
	}
	return strings.Join(parts, "; ")
}

// odd is an equal number in another form.
func odd(r *rand.Rand, n api.Int) api.Int {
	limbs := append(api.Nat(nil), n.Abs...)
	for range r.Intn(3) {
		limbs = append(limbs, 0)
	}
	return api.Int{Neg: n.Neg || zint.Sign(n) == 0 && r.Intn(2) == 0, Abs: limbs}
}

// small is a random number from -far to far.
func small(r *rand.Rand, far int) api.Int { return odd(r, zint.Of(int64(r.Intn(2*far+1)-far))) }

// randomTerm has at most two parts, of the first of several variables and of none.
func randomTerm(r *rand.Rand, vars, far int) api.Term {
	t := api.Term{K: small(r, far)}
	for range r.Intn(3) {
		v := r.Intn(vars+1) - 1
		if v < 0 && r.Intn(4) > 0 {
			v = vars - 1
		}
		t.Parts = append(t.Parts, api.Part{V: v, C: small(r, far)})
	}
	return t
}

func randomRel(r *rand.Rand, vars int) api.Rel {
	return api.Rel{T: randomTerm(r, vars, 2), Eq: r.Intn(3) == 0}
}

func randomForm(r *rand.Rand, vars, depth int) api.Form {
	f := api.Form{Kind: one(r, api.True, api.Atom, api.Atom, api.Atom, api.Atom, api.False, 6), R: randomRel(r, vars)}
	if depth > 0 {
		f.Kind = one(r, api.True, api.Atom, api.Atom, api.Not, api.And, api.Or)
		for range r.Intn(4) {
			f.Kids = append(f.Kids, randomForm(r, vars, depth-1))
		}
	}
	return f
}

func randomAct(r *rand.Rand, s api.Sys) api.Act {
	vars := len(s.Vars)
	a := api.Act{Proc: r.Intn(max(len(s.Procs), 1)), From: r.Intn(2), To: r.Intn(2), Guard: randomForm(r, vars, r.Intn(2))}
	if r.Intn(3) > 0 {
		a.Guard = api.Form{}
	}
	if r.Intn(15) == 0 {
		*one(r, &a.Proc, &a.From, &a.To) = one(r, -1, 2, 3, 1<<62, -1<<62)
	}
	for range r.Intn(4) {
		if vars > 0 {
			a.Moves = append(a.Moves, api.Move{V: r.Intn(vars), Any: r.Intn(3) == 0, T: randomTerm(r, vars, 1)})
		}
	}
	return a
}

// randomSystem has at most two processes and two variables. With confined, these have
// bounds.
func randomSystem(r *rand.Rand, confined bool) api.Sys {
	var s api.Sys
	for range one(r, 0, 1, 1, 1, 2, 2) {
		s.Procs = append(s.Procs, api.Proc{Locs: make([]string, one(r, 1, 1, 2, 2, 2, 2, 3))})
	}
	s.Vars = make([]string, one(r, 0, 1, 1, 2, 2, 2))
	for range s.Vars {
		lo := r.Intn(4) - 2
		b := api.Bound{Is: confined || r.Intn(2) == 0, Lo: odd(r, zint.Of(int64(lo))), Hi: odd(r, zint.Of(int64(lo+one(r, 0, 1, 2, 3, 3, 3, -1))))}
		s.Bounds = append(s.Bounds, b)
	}
	s.Init = randomForm(r, len(s.Vars), r.Intn(3))
	for range r.Intn(5) {
		s.Acts = append(s.Acts, randomAct(r, s))
	}
	return s
}

func randomPreds(r *rand.Rand, vars, most int) []api.Rel {
	var all []api.Rel
	for range r.Intn(most + 1) {
		all = append(all, randomRel(r, vars))
	}
	if len(all) > 0 && r.Intn(5) == 0 {
		all = append(all, all[0])
	}
	return all
}

// automaton reads an automaton: First; each node as "must ! never > next", a good one
// with "*" in front of it; and what is there of Good beyond the nodes, as "+" and "-".
func automaton(text string) buchi.Auto {
	parts := strings.Split(text, ";")
	a := buchi.Auto{First: integers(parts[0])}
	for _, part := range parts[1:] {
		part = strings.TrimSpace(part)
		rest, good := strings.CutPrefix(part, "*")
		if part == "+" || part == "-" {
			good = part == "+"
		} else {
			left, next, _ := strings.Cut(rest, ">")
			must, never, _ := strings.Cut(left, "!")
			a.Nodes = append(a.Nodes, gba.Node{Must: integers(must), Never: integers(never), Next: integers(next)})
		}
		a.Good = append(a.Good, good)
	}
	return a
}

// randomAuto has numbers of nodes that do not exist, duplicates, and fewer or more flags
// than nodes.
func randomAuto(r *rand.Rand, most int) buchi.Auto {
	n := one(r, 0, 1+r.Intn(most), 1+r.Intn(most), 1+r.Intn(most), most)
	list := func(most int) []int {
		var all []int
		for range one(r, r.Intn(most+1), 1+r.Intn(most), most) {
			all = append(all, r.Intn(max(n, 1)))
		}
		if r.Intn(6) == 0 {
			all = append(all, one(r, -1, n, n+1, -1<<62, 1<<62))
		}
		r.Shuffle(len(all), func(i, j int) { all[i], all[j] = all[j], all[i] })
		return all
	}
	a := buchi.Auto{First: list(3)}
	for range n {
		var must, never []int
		if r.Intn(4) == 0 {
			must = append(must, r.Intn(4)-1+r.Intn(2))
		}
		if r.Intn(4) == 0 {
			never = append(never, r.Intn(5)-1)
		}
		a.Nodes = append(a.Nodes, gba.Node{Must: must, Never: never, Next: list(3)})
	}
	for range max(n+one(r, 0, 0, -1, -2, 1, 2), 0) {
		a.Good = append(a.Good, r.Intn(3) == 0)
	}
	return a
}

// lassoOf reads a lasso: its stem and, behind "|", its cycle, each a list of abstract
// states with the act that follows each of them: "0 /+ >0; 1 /- >2 | 0 /- >-1".
func lassoOf(text string) dfs.Lasso {
	var l dfs.Lasso
	stem, cycle, _ := strings.Cut(text, "|")
	for i, list := range []string{stem, cycle} {
		for _, part := range strings.Split(list, ";") {
			if strings.TrimSpace(part) == "" {
				continue
			}
			at, act, _ := strings.Cut(part, ">")
			states := []*[]abstr.Abs{&l.Stem, &l.Cycle}[i]
			*states = append(*states, abstract(strings.TrimSpace(at)))
			l.Acts = append(l.Acts, integers(act)...)
		}
	}
	return l
}

// toldLasso is the opposite of lassoOf, for as many acts as states.
func toldLasso(l dfs.Lasso) string {
	if len(l.Stem)+len(l.Cycle) != len(l.Acts) {
		return fmt.Sprint(toldAll(l.Stem), " | ", toldAll(l.Cycle), " by ", l.Acts)
	}
	var parts []string
	for i, a := range slices.Concat(l.Stem, l.Cycle) {
		parts = append(parts, fmt.Sprint(told(a), " >", l.Acts[i]))
	}
	n := len(l.Stem)
	return strings.Join(parts[:n], "; ") + " | " + strings.Join(parts[n:], "; ")
}
