package dfs

import (
	"strconv"

	"plumbline/abstr"
	"plumbline/api"
	"plumbline/buchi"
	"plumbline/nodes"
)

// pair is the number of an abstract state, and a node that allows its Letter.
type pair struct{ state, node int32 }

// graph contains the pairs of a system's abstract states and an automaton. Abstract
// states are numbered as they are found.
type graph struct {
	sys     api.Sys
	props   []api.Prop
	ps      []api.Rel
	auto    buchi.Auto
	initial []int32   // the different existing nodes in First
	next    [][]int32 // and those in Next of each node
	places  []place
	numbers map[string]int32 // of abstract states, by their keys
}

// place is an abstract state, with its Letter, and with its steps as soon as they are
// known.
type place struct {
	abs    abstr.Abs
	letter []bool
	known  bool
	steps  []edge
}

// edge is a step to the abstract state with a number.
type edge struct {
	act int
	to  int32
}

func newGraph(s api.Sys, props []api.Prop, ps []api.Rel, a buchi.Auto) *graph {
	g := &graph{sys: s, props: props, ps: ps, auto: a, numbers: map[string]int32{}}
	g.initial = nodes.Existing(a.First, len(a.Nodes))
	for _, n := range a.Nodes {
		g.next = append(g.next, nodes.Existing(n.Next, len(a.Nodes)))
	}
	return g
}

// number returns the number of an abstract state.
func (g *graph) number(a abstr.Abs) int32 {
	k := key(a)
	n, ok := g.numbers[k]
	if !ok {
		n = int32(len(g.places))
		g.numbers[k] = n
		letter, _ := abstr.Letter(g.props, g.ps, a)
		g.places = append(g.places, place{abs: a, letter: letter})
	}
	return n
}

// key returns a text that is different for different abstract states.
func key(a abstr.Abs) string {
	var text []byte
	for _, loc := range a.Locs {
		text = append(strconv.AppendInt(text, int64(loc), 10), ' ')
	}
	for _, bit := range a.Bits {
		if bit {
			text = append(text, '+')
		} else {
			text = append(text, '-')
		}
	}
	return string(text)
}

// expand finds the steps from an abstract state, if they are not known yet. It returns
// the fuel that is left, and true, or false if it was not sufficient.
func (g *graph) expand(state int32, fuel int) (int, bool) {
	if g.places[state].known {
		return fuel, true
	}
	steps, left, ok := abstr.Steps(g.sys, g.ps, g.places[state].abs, fuel)
	var edges []edge
	for _, step := range steps {
		edges = append(edges, edge{step.Act, g.number(step.To)})
	}
	g.places[state].steps, g.places[state].known = edges, ok
	return left, ok
}

// isPair reports whether the node of p allows the Letter of its abstract state.
func (g *graph) isPair(p pair) bool {
	return buchi.Allows(g.auto.Nodes[p.node], g.places[p.state].letter)
}

// isGood reports whether the node of p is good.
func (g *graph) isGood(p pair) bool {
	return int(p.node) < len(g.auto.Good) && g.auto.Good[p.node]
}

// visit is a pair, and how far its edges have been followed: up to those of a step, to
// the nodes in front of the one with index next.
type visit struct {
	at         pair
	step, next int
}

// follow follows the next edge of a visit, and returns the pair to which it leads, or
// false if there is no further edge.
func (g *graph) follow(v *visit) (pair, bool) {
	steps, next := g.places[v.at.state].steps, g.next[v.at.node]
	for ; v.step < len(steps); v.step, v.next = v.step+1, 0 {
		for v.next < len(next) {
			to := pair{steps[v.step].to, next[v.next]}
			v.next++
			if g.isPair(to) {
				return to, true
			}
		}
	}
	return pair{}, false
}
