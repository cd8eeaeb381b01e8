package dfs_test

import (
	"fmt"
	"slices"
	"testing"

	"plumbline/abstr"
	"plumbline/api"
	"plumbline/buchi"
	"plumbline/dfs"
)

// plenty is more fuel than any search of these tests needs.
const plenty = 1 << 28

// abstracts are the abstract states of a system that can be reached, with what the
// document says of them.
type abstracts struct {
	s       api.Sys
	props   []api.Prop
	ps      []api.Rel
	starts  []abstr.Abs
	asked   int // the fuel that Starts consumes
	steps   map[string][]abstr.Step
	costs   map[string]int // the fuel that Steps consumes
	letters map[string][]bool
	vague   bool // a Letter is not defined
}

func abstractsOf(s api.Sys, props []api.Prop, ps []api.Rel) *abstracts {
	g := &abstracts{s: s, props: props, ps: ps, steps: map[string][]abstr.Step{}, costs: map[string]int{}, letters: map[string][]bool{}}
	starts, left, ok := abstr.Starts(s, ps, plenty)
	if !ok {
		panic("the starts are not known")
	}
	g.starts, g.asked = starts, plenty-left
	list := slices.Clone(starts)
	for i := 0; i < len(list); i++ {
		name := told(list[i])
		if _, known := g.steps[name]; known {
			continue
		}
		steps, left, ok := abstr.Steps(s, ps, list[i], plenty)
		letter, defined := abstr.Letter(props, ps, list[i])
		if !ok {
			panic("steps are not known")
		}
		g.steps[name], g.costs[name], g.letters[name] = steps, plenty-left, letter
		g.vague = g.vague || !defined
		for _, step := range steps {
			list = append(list, step.To)
		}
	}
	return g
}

// couple is the text of an abstract state, and a node.
type couple struct {
	place string
	node  int
}

// words tells what the document says of the pairs with an automaton.
type words struct {
	*abstracts
	a buchi.Auto
}

// edges are all edges from a pair: each step to a node that allows the letter.
func (w words) edges(from couple) []couple {
	var all []couple
	for _, step := range w.steps[from.place] {
		name := told(step.To)
		for node := range w.a.Nodes {
			if slices.Contains(w.a.Nodes[from.node].Next, node) && buchi.Allows(w.a.Nodes[node], w.letters[name]) {
				all = append(all, couple{name, node})
			}
		}
	}
	return all
}

// reached are all pairs that can be reached from some, and these.
func (w words) reached(from []couple) map[couple]bool {
	is := map[couple]bool{}
	for _, p := range from {
		is[p] = true
	}
	list := slices.Clone(from)
	for i := 0; i < len(list); i++ {
		for _, to := range w.edges(list[i]) {
			if !is[to] {
				is[to] = true
				list = append(list, to)
			}
		}
	}
	return is
}

// cost is the fuel for pairs that are visited, and their steps.
func (w words) cost(pairs map[couple]bool) int {
	sum := 0
	for p := range pairs {
		sum += 1 + len(w.edges(p))
	}
	return sum
}

// answer is the state, and if there is no lasso, how much fuel is consumed: by questions,
// and for pairs and steps. All pairs that can be reached are visited, and all that can be
// reached from good ones a second time.
func (w words) answer() (state, questions, visits int) {
	if w.vague {
		return dfs.Fuel, w.asked, 0
	}
	var first, good []couple
	for _, start := range w.starts {
		for node := range w.a.Nodes {
			if slices.Contains(w.a.First, node) && buchi.Allows(w.a.Nodes[node], w.letters[told(start)]) {
				first = append(first, couple{told(start), node})
			}
		}
	}
	reached := w.reached(first)
	questions = w.asked
	places := map[string]bool{}
	for p := range reached {
		if !places[p.place] {
			places[p.place] = true
			questions += w.costs[p.place]
		}
		if p.node >= len(w.a.Good) || !w.a.Good[p.node] {
			continue
		}
		good = append(good, p)
		if w.reached(w.edges(p))[p] {
			return dfs.Found, -1, -1
		}
	}
	return dfs.None, questions, w.cost(reached) + w.cost(w.reached(good))
}

// lassos calls use for all valid lassos, but for their words, of at most most states.
func (g *abstracts) lassos(most int, use func(l dfs.Lasso)) {
	var path []abstr.Abs
	var acts []int
	var extend func(at abstr.Abs)
	extend = func(at abstr.Abs) {
		path = append(path, at)
		for _, step := range g.steps[told(at)] {
			acts = append(acts, step.Act)
			for i := range path {
				if abstr.Same(path[i], step.To) {
					use(dfs.Lasso{Stem: slices.Clone(path[:i]), Cycle: slices.Clone(path[i:]), Acts: slices.Clone(acts)})
				}
			}
			if len(path) < most {
				extend(step.To)
			}
			acts = acts[:len(acts)-1]
		}
		path = path[:len(path)-1]
	}
	for _, start := range g.starts {
		extend(start)
	}
}

func toldAnswer(a dfs.Answer) string {
	return fmt.Sprint(a.State, ", ", a.Left, " left, ", toldLasso(a.Lasso))
}

const nothing = "3, 0 left,  | " // the fuel was not sufficient

// expectAnswer expects all that the document says of an answer, with fuel that is just
// enough, less and more. It returns the answer.
func expectAnswer(t *testing.T, w words) dfs.Answer {
	t.Helper()
	search := func(fuel int) dfs.Answer { return dfs.Search(w.s, w.props, w.ps, w.a, fuel) }
	state, questions, visits := w.answer()
	answer := search(plenty)
	consumed := plenty - answer.Left
	what := fmt.Sprintf("%+v, %+v, for %v and %v", w.a, w.s, w.props, w.ps)
	if answer.State != state || state != dfs.Found && consumed != questions+visits {
		t.Fatalf("state %d, %d consumed, not %d, %d + %d: %s", answer.State, consumed, state, questions, visits, what)
	}
	l := answer.Lasso
	right, known := dfs.Right(w.s, w.props, w.ps, w.a, l, plenty)
	if empty := toldLasso(l) == " | "; empty != (state != dfs.Found) || !known || right == empty {
		t.Fatalf("%s is valid: %v, %v: %s", toldLasso(l), right, known, what)
	}
	sufficient := false
	for _, fuel := range []int{0, 1, consumed / 2, consumed - 2, consumed - 1, consumed, consumed + 1, consumed + 1000, 2*consumed + 5000} {
		if fuel < 0 {
			continue
		}
		got := toldAnswer(search(fuel))
		if got == nothing && !sufficient && state != dfs.Fuel && fuel < consumed+1000 {
			continue
		}
		answer.Left = fuel - consumed
		if want := toldAnswer(answer); fuel >= consumed && got != want || fuel < consumed && got != nothing {
			t.Fatalf("%s with %d, not %s: %s", got, fuel, want, what)
		}
		sufficient = fuel >= consumed
	}
	return answer
}
