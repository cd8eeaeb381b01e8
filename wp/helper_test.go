package wp_test

import (
	"fmt"
	"math/rand"
	"slices"
	"strconv"
	"strings"
	"testing"

	"plumbline/api"
	"plumbline/decide"
	"plumbline/expr"
	"plumbline/logic"
	"plumbline/zint"
)

func expect(t *testing.T, what, got, want string) {
	t.Helper()
	if got != want {
		t.Errorf("%.600s:\n got %.1200s\nwant %.1200s", what, got, want)
	}
}

func one[T any](r *rand.Rand, all ...T) T { return all[r.Intn(len(all))] }

// names are those of the variables of a system in texts.
var names = []string{"x", "y", "z"}

// copies are names for the copies of the first n variables: x, y, x1, y1, x2 and so on.
func copies(n int) []string {
	all := slices.Clone(names[:n])
	for k := 1; k <= 4; k++ {
		for _, name := range names[:n] {
			all = append(all, fmt.Sprint(name, k))
		}
	}
	return all
}

func integer(text string) int {
	n, err := strconv.Atoi(text)
	if err != nil {
		panic(text)
	}
	return n
}

func integers(text string) []int {
	var all []int
	for _, part := range strings.Fields(text) {
		all = append(all, integer(part))
	}
	return all
}

func number(text string) api.Int {
	n, e := zint.Parse(text)
	if e != api.OK {
		panic(text)
	}
	return n
}

func cond(text string, names []string) api.Form {
	tree, _, e := expr.ParseCond(text)
	f, ok := expr.Form(tree, names)
	if e != api.OK || !ok {
		panic(text)
	}
	return f
}

func sum(text string) api.Term {
	ms, _, e := expr.ParseSum(text)
	t, ok := expr.Term(ms, names)
	if e != api.OK || !ok {
		panic(text)
	}
	return t
}

// act reads an act: its process, "from>to", a Guard or none, and behind "/" its Moves,
// whose variables can also be numbers: "0 0>1 x < 3 / x := x + 1, -1 := *".
func act(text string) api.Act {
	text, sets, moves := strings.Cut(text, "/")
	parts := strings.SplitN(strings.TrimSpace(text), " ", 3)
	from, to, _ := strings.Cut(parts[1], ">")
	a := api.Act{Proc: integer(parts[0]), From: integer(from), To: integer(to)}
	if len(parts) > 2 {
		a.Guard = cond(parts[2], names)
	}
	if !moves {
		return a
	}
	for _, set := range strings.Split(sets, ",") {
		left, right, _ := strings.Cut(set, ":=")
		left, right = strings.TrimSpace(left), strings.TrimSpace(right)
		m := api.Move{V: strings.Index("xyz", left), Any: right == "*"}
		if m.V < 0 {
			m.V = integer(left)
		}
		if m.Any {
			m.T = sum("9") // to be ignored
		} else {
			m.T = sum(right)
		}
		a.Moves = append(a.Moves, m)
	}
	return a
}

// system reads a system: how many locations each process has; the bound of each variable,
// "free" for one that is not set and "out" for none at all, and further bounds behind "|";
// Init; and the acts.
func system(text string) api.Sys {
	parts := strings.Split(text, ";")
	var s api.Sys
	for i, n := range integers(parts[0]) {
		s.Procs = append(s.Procs, api.Proc{Name: fmt.Sprint("p", i), Locs: make([]string, n)})
	}
	bounds, further, _ := strings.Cut(parts[1], "|")
	for v, bound := range strings.Fields(bounds) {
		s.Vars = append(s.Vars, names[v])
		if bound != "out" {
			s.Bounds = append(s.Bounds, boundOf(bound))
		}
	}
	for _, bound := range strings.Fields(further) {
		s.Bounds = append(s.Bounds, boundOf(bound))
	}
	s.Init = cond(parts[2], names)
	for _, part := range parts[3:] {
		s.Acts = append(s.Acts, act(part))
	}
	return s
}

func boundOf(text string) api.Bound {
	lo, hi, is := strings.Cut(text, "..")
	if !is { // Lo and Hi are to be ignored
		return api.Bound{Lo: number("1"), Hi: number("2")}
	}
	return api.Bound{Is: true, Lo: number(lo), Hi: number(hi)}
}

// expectForm expects a formula that holds where the condition of a text does, about
// copies of a system's variables.
func expectForm(t *testing.T, what string, s api.Sys, got api.Form, want string) {
	t.Helper()
	all := copies(len(s.Vars))
	if is, known := decide.Equal(got, cond(want, all), 1<<20); !is || !known {
		t.Errorf("%s:\n got %s\nwant %s", what, logic.Text(got, all), want)
	}
}

// odd is an equal number in another form.
func odd(r *rand.Rand, n api.Int) api.Int {
	limbs := append(api.Nat(nil), n.Abs...)
	for range r.Intn(3) {
		limbs = append(limbs, 0)
	}
	return api.Int{Neg: n.Neg || zint.Sign(n) == 0 && r.Intn(2) == 0, Abs: limbs}
}

// small is a random number from -far to far.
func small(r *rand.Rand, far int) api.Int { return odd(r, zint.Of(int64(r.Intn(2*far+1)-far))) }

// randomTerm has at most two parts, of the first of several variables and of none.
func randomTerm(r *rand.Rand, vars, far int) api.Term {
	t := api.Term{K: small(r, far)}
	for range r.Intn(3) {
		v := r.Intn(vars+1) - 1
		if v < 0 && r.Intn(4) > 0 {
			v = vars - 1
		}
		t.Parts = append(t.Parts, api.Part{V: v, C: small(r, far)})
	}
	return t
}

func randomForm(r *rand.Rand, vars, depth int) api.Form {
	f := api.Form{Kind: one(r, api.True, api.True, api.Atom, api.Atom, api.Atom, api.Atom, api.False, -1, 6)}
	if depth > 0 {
		f.Kind = one(r, api.True, api.Atom, api.Atom, api.Not, api.And, api.Or)
		for range r.Intn(4) {
			f.Kids = append(f.Kids, randomForm(r, vars, depth-1))
		}
	}
	f.R = api.Rel{T: randomTerm(r, vars, 2), Eq: r.Intn(3) == 0}
	return f
}

func randomAct(r *rand.Rand, s api.Sys, vars int) api.Act {
	a := api.Act{Proc: r.Intn(max(len(s.Procs), 1)), From: r.Intn(2), To: r.Intn(2), Guard: randomForm(r, vars, r.Intn(3))}
	if r.Intn(12) == 0 {
		*one(r, &a.Proc, &a.From, &a.To) = one(r, -1, 2, 3, 1<<62, -1<<62)
	}
	for range r.Intn(4) {
		if len(s.Vars) > 0 {
			a.Moves = append(a.Moves, api.Move{V: r.Intn(len(s.Vars)), Any: r.Intn(3) == 0, T: randomTerm(r, vars, 1)})
		}
	}
	if r.Intn(12) == 0 {
		a.Moves = append(a.Moves, api.Move{V: one(r, -1, len(s.Vars), 1<<62, -1<<62), Any: r.Intn(2) == 0})
	}
	return a
}

// randomSystem has at most two processes and two variables, with bounds of all sorts. Its
// formulas and terms can have more variables than the system, up to beyond.
func randomSystem(r *rand.Rand, beyond int) api.Sys {
	var s api.Sys
	for range one(r, 0, 1, 1, 1, 2, 2) {
		s.Procs = append(s.Procs, api.Proc{Locs: make([]string, one(r, 0, 1, 1, 2, 2, 2, 2, 2, 3))})
	}
	s.Vars = make([]string, one(r, 0, 1, 1, 2, 2, 2))
	for range max(len(s.Vars)+one(r, 0, 0, 0, 0, -1, 1), 0) {
		lo := r.Intn(4) - 2
		hi := lo + one(r, 0, 1, 2, 3, 4, 4, 4, 4, -1)
		s.Bounds = append(s.Bounds, api.Bound{Is: r.Intn(4) > 0, Lo: odd(r, zint.Of(int64(lo))), Hi: odd(r, zint.Of(int64(hi)))})
	}
	vars := len(s.Vars) + beyond
	s.Init = randomForm(r, vars, r.Intn(3))
	for range r.Intn(5) {
		s.Acts = append(s.Acts, randomAct(r, s, vars))
	}
	return s
}

// lists are all lists of n numbers from -far to far.
func lists(n, far int) [][]api.Int {
	all := [][]api.Int{nil}
	for range n {
		var longer [][]api.Int
		for _, list := range all {
			for val := -far; val <= far; val++ {
				longer = append(longer, append(slices.Clone(list), zint.Of(int64(val))))
			}
		}
		all = longer
	}
	return all
}

// places are all lists of locations, and some with one that does not exist.
func places(s api.Sys) [][]int {
	all := [][]int{nil}
	for _, p := range s.Procs {
		var longer [][]int
		for _, locs := range all {
			for loc := -1; loc <= len(p.Locs); loc++ {
				longer = append(longer, append(slices.Clone(locs), loc))
			}
		}
		all = longer
	}
	return all
}
