package kripke_test

import (
	"fmt"
	"math/rand"
	"strconv"
	"strings"
	"testing"

	"plumbline/api"
	"plumbline/expr"
	"plumbline/zint"
)

func expect(t *testing.T, what, got, want string) {
	t.Helper()
	if got != want {
		t.Errorf("%.600s:\n got %.1200s\nwant %.1200s", what, got, want)
	}
}

func one[T any](r *rand.Rand, all ...T) T { return all[r.Intn(len(all))] }

// names are those of the variables in texts.
var names = []string{"x", "y", "z"}

func integer(text string) int {
	n, err := strconv.Atoi(text)
	if err != nil {
		panic(text)
	}
	return n
}

func integers(text string) []int {
	var all []int
	for _, part := range strings.Fields(text) {
		all = append(all, integer(part))
	}
	return all
}

func number(text string) api.Int {
	n, e := zint.Parse(text)
	if e != api.OK {
		panic(text)
	}
	return n
}

func numbers(text string) []api.Int {
	var all []api.Int
	for _, part := range strings.Fields(text) {
		all = append(all, number(part))
	}
	return all
}

func cond(text string) api.Form {
	tree, _, e := expr.ParseCond(text)
	f, ok := expr.Form(tree, names)
	if e != api.OK || !ok {
		panic(text)
	}
	return f
}

func sum(text string) api.Term {
	ms, _, e := expr.ParseSum(text)
	t, ok := expr.Term(ms, names)
	if e != api.OK || !ok {
		panic(text)
	}
	return t
}

// act reads an act: its process, "from>to", a Guard or none, and behind "/" its Moves,
// whose variables can also be numbers: "0 0>1 x < 3 / x := x + 1, -1 := *".
func act(text string) api.Act {
	text, sets, moves := strings.Cut(text, "/")
	parts := strings.SplitN(strings.TrimSpace(text), " ", 3)
	from, to, _ := strings.Cut(parts[1], ">")
	a := api.Act{Proc: integer(parts[0]), From: integer(from), To: integer(to)}
	if len(parts) > 2 {
		a.Guard = cond(parts[2])
	}
	if !moves {
		return a
	}
	for _, set := range strings.Split(sets, ",") {
		left, right, _ := strings.Cut(set, ":=")
		left, right = strings.TrimSpace(left), strings.TrimSpace(right)
		m := api.Move{V: strings.Index("xyz", left), Any: right == "*"}
		if m.V < 0 {
			m.V = integer(left)
		}
		if !m.Any {
			m.T = sum(right)
		}
		a.Moves = append(a.Moves, m)
	}
	return a
}

// system reads a system: how many locations each process has; the bound of each variable,
// "free" for one that is not set and "out" for none at all; Init; and the acts.
func system(text string) api.Sys {
	parts := strings.Split(text, ";")
	var s api.Sys
	for i, n := range integers(parts[0]) {
		p := api.Proc{Name: string(rune('p' + i))}
		for k := range n {
			p.Locs = append(p.Locs, string(rune('a'+k)))
		}
		s.Procs = append(s.Procs, p)
	}
	for v, bound := range strings.Fields(parts[1]) {
		s.Vars = append(s.Vars, names[v])
		lo, hi, is := strings.Cut(bound, "..")
		if is {
			s.Bounds = append(s.Bounds, api.Bound{Is: true, Lo: number(lo), Hi: number(hi)})
		} else if bound == "free" { // Lo and Hi are to be ignored
			s.Bounds = append(s.Bounds, api.Bound{Lo: number("7"), Hi: number("-7")})
		}
	}
	s.Init = cond(parts[2])
	for _, part := range parts[3:] {
		s.Acts = append(s.Acts, act(part))
	}
	return s
}

// state reads a state: its locations, "/", and its values.
func state(text string) api.State {
	locs, vals, _ := strings.Cut(text, "/")
	return api.State{Locs: integers(locs), Vals: numbers(vals)}
}

func states(text string) []api.State {
	var all []api.State
	for _, part := range strings.Split(text, ";") {
		if strings.TrimSpace(part) != "" {
			all = append(all, state(part))
		}
	}
	return all
}

// run reads a run: the states of its stem, "|", those of its cycle, and "|" and its acts.
func run(text string) api.Run {
	parts := strings.Split(text, "|")
	return api.Run{Stem: states(parts[0]), Cycle: states(parts[1]), Acts: integers(parts[2])}
}

// told is the opposite of state.
func told(x api.State) string {
	text := strings.Trim(fmt.Sprint(x.Locs), "[]") + " /"
	for _, val := range x.Vals {
		text += " " + zint.Text(val)
	}
	return text
}

// odd is an equal number in another form.
func odd(r *rand.Rand, n api.Int) api.Int {
	limbs := append(api.Nat(nil), n.Abs...)
	for range r.Intn(3) {
		limbs = append(limbs, 0)
	}
	return api.Int{Neg: n.Neg || zint.Sign(n) == 0 && r.Intn(2) == 0, Abs: limbs}
}
