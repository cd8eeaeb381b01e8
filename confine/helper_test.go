package confine_test

import (
	"fmt"
	"math/rand"
	"strconv"
	"strings"
	"testing"

	"plumbline/api"
	"plumbline/buchi"
	"plumbline/confine"
	"plumbline/expr"
	"plumbline/gba"
	"plumbline/kripke"
	"plumbline/zint"
)

func expect(t *testing.T, what, got, want string) {
	t.Helper()
	if got != want {
		t.Errorf("%.600s:\n got %.1200s\nwant %.1200s", what, got, want)
	}
}

func one[T any](r *rand.Rand, all ...T) T { return all[r.Intn(len(all))] }

// names are those of the variables in texts.
var names = []string{"x", "y", "z"}

func integer(text string) int {
	n, err := strconv.Atoi(text)
	if err != nil {
		panic(text)
	}
	return n
}

func integers(text string) []int {
	var all []int
	for _, part := range strings.Fields(text) {
		all = append(all, integer(part))
	}
	return all
}

func number(text string) api.Int {
	n, e := zint.Parse(text)
	if e != api.OK {
		panic(text)
	}
	return n
}

func cond(text string) api.Form {
	tree, _, e := expr.ParseCond(text)
	f, ok := expr.Form(tree, names)
	if e != api.OK || !ok {
		panic(text)
	}
	return f
}

func sum(text string) api.Term {
	ms, _, e := expr.ParseSum(text)
	t, ok := expr.Term(ms, names)
	if e != api.OK || !ok {
		panic(text)
	}
	return t
}

// act reads an act: its process, "from>to", a Guard or none, and behind "/" its Moves,
// whose variables can also be numbers: "0 0>1 x < 3 / x := x + 1, -1 := *".
func act(text string) api.Act {
	text, sets, moves := strings.Cut(text, "/")
	parts := strings.SplitN(strings.TrimSpace(text), " ", 3)
	from, to, _ := strings.Cut(parts[1], ">")
	a := api.Act{Proc: integer(parts[0]), From: integer(from), To: integer(to)}
	if len(parts) > 2 {
		a.Guard = cond(parts[2])
	}
	if !moves {
		return a
	}
	for _, set := range strings.Split(sets, ",") {
		left, right, _ := strings.Cut(set, ":=")
		left, right = strings.TrimSpace(left), strings.TrimSpace(right)
		m := api.Move{V: strings.Index("xyz", left), Any: right == "*"}
		if m.V < 0 {
			m.V = integer(left)
		}
		if !m.Any {
			m.T = sum(right)
		}
		a.Moves = append(a.Moves, m)
	}
	return a
}

// system reads a system: how many locations each process has; the bound of each variable,
// "free" for one that is not set and "out" for none at all; Init; and the acts.
func system(text string) api.Sys {
	parts := strings.Split(text, ";")
	var s api.Sys
	for i, n := range integers(parts[0]) {
		s.Procs = append(s.Procs, api.Proc{Name: fmt.Sprint("p", i), Locs: make([]string, n)})
	}
	for v, bound := range strings.Fields(parts[1]) {
		s.Vars = append(s.Vars, fmt.Sprint("x", v))
		lo, hi, is := strings.Cut(bound, "..")
		if is {
			s.Bounds = append(s.Bounds, api.Bound{Is: true, Lo: number(lo), Hi: number(hi)})
		} else if bound == "free" { // Lo and Hi are to be ignored
			s.Bounds = append(s.Bounds, api.Bound{Lo: number("1"), Hi: number("2")})
		}
	}
	s.Init = cond(parts[2])
	for _, part := range parts[3:] {
		s.Acts = append(s.Acts, act(part))
	}
	return s
}

// state reads a state: its locations, "/", and its values.
func state(text string) api.State {
	locs, vals, _ := strings.Cut(text, "/")
	x := api.State{Locs: integers(locs)}
	for _, part := range strings.Fields(vals) {
		x.Vals = append(x.Vals, number(part))
	}
	return x
}

// told is the opposite of state.
func told(x api.State) string {
	text := strings.Trim(fmt.Sprint(x.Locs), "[]") + " /"
	for _, val := range x.Vals {
		text += " " + zint.Text(val)
	}
	return text
}

func toldAll(all []api.State) string {
	var parts []string
	for _, x := range all {
		parts = append(parts, told(x))
	}
	return strings.Join(parts, "; ")
}

// toldEdges tells edges, each as its act, ">", and its state.
func toldEdges(all []confine.Edge) string {
	var parts []string
	for _, e := range all {
		parts = append(parts, fmt.Sprint(e.Act, "> ", told(e.To)))
	}
	return strings.Join(parts, "; ")
}

func toldRun(r api.Run) string {
	return toldAll(r.Stem) + " | " + toldAll(r.Cycle) + " | " + fmt.Sprint(r.Acts)
}

// props reads atoms: "process@location", or a condition.
func props(text string) []api.Prop {
	var all []api.Prop
	for _, part := range strings.Split(text, ";") {
		part = strings.TrimSpace(part)
		if proc, loc, at := strings.Cut(part, "@"); at {
			all = append(all, api.Prop{At: true, Proc: integer(proc), Loc: integer(loc)})
		} else if part != "" {
			all = append(all, api.Prop{F: cond(part)})
		}
	}
	return all
}

// automaton reads an automaton: First; each node as "must ! never > next", a good one
// with "*" in front of it; and what is there of Good beyond the nodes, as "+" and "-".
func automaton(text string) buchi.Auto {
	parts := strings.Split(text, ";")
	a := buchi.Auto{First: integers(parts[0])}
	for _, part := range parts[1:] {
		part = strings.TrimSpace(part)
		rest, good := strings.CutPrefix(part, "*")
		if part == "+" || part == "-" {
			good = part == "+"
		} else {
			left, next, _ := strings.Cut(rest, ">")
			must, never, _ := strings.Cut(left, "!")
			a.Nodes = append(a.Nodes, gba.Node{Must: integers(must), Never: integers(never), Next: integers(next)})
		}
		a.Good = append(a.Good, good)
	}
	return a
}

// odd is an equal number in another form.
func odd(r *rand.Rand, n api.Int) api.Int {
	limbs := append(api.Nat(nil), n.Abs...)
	for range r.Intn(3) {
		limbs = append(limbs, 0)
	}
	return api.Int{Neg: n.Neg || zint.Sign(n) == 0 && r.Intn(2) == 0, Abs: limbs}
}

func oddState(r *rand.Rand, x api.State) api.State {
	y := api.State{Locs: x.Locs}
	for _, val := range x.Vals {
		y.Vals = append(y.Vals, odd(r, val))
	}
	return y
}

// fitting are all states that fit a confined system in the order of their numbers, as the
// document says: by locations first, where that of the first process is most significant,
// and then by values from Lo on, where that of the last variable is least significant.
func fitting(s api.Sys) []api.State {
	all := []api.State{{}}
	for _, p := range s.Procs {
		var longer []api.State
		for _, x := range all {
			for loc := range p.Locs {
				longer = append(longer, api.State{Locs: append(x.Locs[:len(x.Locs):len(x.Locs)], loc)})
			}
		}
		all = longer
	}
	for v := range s.Vars {
		var longer []api.State
		for _, x := range all {
			for val := s.Bounds[v].Lo; zint.Cmp(val, s.Bounds[v].Hi) <= 0; val = zint.Add(val, zint.Of(1)) {
				longer = append(longer, api.State{Locs: x.Locs, Vals: append(x.Vals[:len(x.Vals):len(x.Vals)], val)})
			}
		}
		all = longer
	}
	return all
}

func randomTerm(r *rand.Rand) api.Term {
	t := api.Term{K: odd(r, zint.Of(int64(r.Intn(5)-2)))}
	for range r.Intn(3) {
		t.Parts = append(t.Parts, api.Part{V: one(r, 0, 1, 0, 1, 0, 1, 2, -1), C: odd(r, zint.Of(int64(r.Intn(3)-1)))})
	}
	return t
}

func randomForm(r *rand.Rand, depth int) api.Form {
	f := api.Form{Kind: one(r, api.True, api.Atom, api.Atom, api.Atom, api.Atom, api.False, 6)}
	if depth > 0 {
		f.Kind = one(r, api.True, api.Atom, api.Atom, api.Not, api.And, api.Or)
		for range r.Intn(3) {
			f.Kids = append(f.Kids, randomForm(r, depth-1))
		}
	}
	f.R = api.Rel{T: randomTerm(r), Eq: r.Intn(3) == 0}
	return f
}

func randomAct(r *rand.Rand, s api.Sys) api.Act {
	a := api.Act{Proc: r.Intn(max(len(s.Procs), 1)), From: r.Intn(2), To: r.Intn(2), Guard: randomForm(r, r.Intn(2))}
	if r.Intn(4) > 0 {
		a.Guard = api.Form{}
	}
	if r.Intn(15) == 0 {
		*one(r, &a.Proc, &a.From, &a.To) = one(r, -1, 2, 3, 1<<62, -1<<62)
	}
	for range r.Intn(4) {
		if len(s.Vars) > 0 {
			a.Moves = append(a.Moves, api.Move{V: r.Intn(len(s.Vars)), Any: r.Intn(3) == 0, T: randomTerm(r)})
		}
	}
	if r.Intn(15) == 0 {
		a.Moves = append(a.Moves, api.Move{V: one(r, -1, len(s.Vars), 1<<62, -1<<62), Any: r.Intn(2) == 0})
	}
	return a
}

// randomSystem is confined, with at most two processes and three variables.
func randomSystem(r *rand.Rand) api.Sys {
	s := api.Sys{Init: randomForm(r, r.Intn(3))}
	for range one(r, 0, 1, 1, 1, 2, 2) {
		s.Procs = append(s.Procs, api.Proc{Locs: make([]string, one(r, 1, 1, 1, 2, 2, 2, 2, 3, 3, 0))})
	}
	s.Vars = make([]string, one(r, 0, 1, 1, 2, 2, 2, 3))
	for range len(s.Vars) + r.Intn(2) {
		lo := r.Intn(4) - 3
		s.Bounds = append(s.Bounds, api.Bound{Is: true, Lo: odd(r, zint.Of(int64(lo))), Hi: odd(r, zint.Of(int64(lo+one(r, 0, 0, 1, 1, 2, 2, 2, 2, 3, 3, 3, -1, -2))))})
	}
	for range r.Intn(5) {
		s.Acts = append(s.Acts, randomAct(r, s))
	}
	return s
}

// stepsByWords are all steps from a state that fits, by asking Leads of all states.
func stepsByWords(s api.Sys, x api.State, all []api.State) []confine.Edge {
	var steps []confine.Edge
	for act := range s.Acts {
		for _, y := range all {
			if kripke.Leads(s, x, act, y) {
				steps = append(steps, confine.Edge{Act: act, To: y})
			}
		}
	}
	if kripke.Leads(s, x, -1, x) {
		steps = append(steps, confine.Edge{Act: -1, To: x})
	}
	return steps
}
