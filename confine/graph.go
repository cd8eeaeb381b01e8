package confine

import (
	"plumbline/api"
	"plumbline/buchi"
	"plumbline/kripke"
	"plumbline/nodes"
)

// wide is the number of steps from which the steps of a fan that a node allows are listed
// once. It would take far more time than fuel to find them again and again among many
// that the node does not allow.
const wide = 256

// pair is the number of a state, and a node that allows its letter.
type pair struct{ state, node int32 }

// graph contains the pairs of a system and an automaton. What is needed of it is found
// when it is asked for.
type graph struct {
	space
	props   []api.Prop
	auto    buchi.Auto
	choices []choice
	next    [][]int32          // the different existing nodes in Next of each node
	fans    [][]fan            // from each state
	letters [][]bool           // of each state
	lists   map[spread][]int32 // of states that are allowed
}

// spread stands for a node and the states to which the steps of a fan lead, which differ
// in those variables in which the one with the least and the one with the greatest number
// differ.
type spread struct{ low, high, node int32 }

func graphOf(c space, ps []api.Prop, a buchi.Auto) *graph {
	g := &graph{space: c, props: ps, auto: a, choices: c.choices(), lists: map[spread][]int32{}}
	g.fans, g.letters = make([][]fan, c.count), make([][]bool, c.count)
	for _, n := range a.Nodes {
		g.next = append(g.next, nodes.Existing(n.Next, len(a.Nodes)))
	}
	return g
}

// isPair reports whether the node allows the letter of the state.
func (g *graph) isPair(p pair) bool {
	letter := g.letters[p.state]
	if letter == nil && len(g.props) > 0 {
		letter = kripke.Letter(g.props, g.state(int(p.state)))
		g.letters[p.state] = letter
	}
	return buchi.Allows(g.auto.Nodes[p.node], letter)
}

// isGood reports whether the node of a pair is good.
func (g *graph) isGood(p pair) bool {
	return int(p.node) < len(g.auto.Good) && g.auto.Good[p.node]
}

// fansOf returns the steps from a state.
func (g *graph) fansOf(state int32) []fan {
	if g.fans[state] == nil { // there is at least one step from every state
		g.fans[state] = g.fansFrom(g.state(int(state)), g.choices)
	}
	return g.fans[state]
}

// visit is a pair, and how far its edges have been followed: up to those of a fan to a
// node in next, and of these up to the step in front of the one with number step.
type visit struct {
	at              pair
	fan, next, step int32
}

// follow follows the next edge of a visit, and returns the pair to which it leads, or
// false if there is no further edge.
func (g *graph) follow(v *visit) (pair, bool) {
	fans, next := g.fansOf(v.at.state), g.next[v.at.node]
	for ; int(v.fan) < len(fans); v.fan, v.next = v.fan+1, 0 {
		for ; int(v.next) < len(next); v.next, v.step = v.next+1, 0 {
			node := next[v.next]
			if to, ok := g.seek(fans[v.fan], node, &v.step); ok {
				return pair{to, node}, true
			}
		}
	}
	return pair{}, false
}

// seek returns the state to which the first step of a fan leads that a node allows, from
// a number on, and moves the number behind this step. The steps of a wide fan are numbered
// without those that the node does not allow.
func (g *graph) seek(f fan, node int32, step *int32) (int32, bool) {
	if f.choice.count < wide {
		for int(*step) < f.choice.count {
			to := f.to(int(*step))
			*step++
			if g.isPair(pair{to, node}) {
				return to, true
			}
		}
		return 0, false
	}
	list := g.allowed(f, node)
	if int(*step) == len(list) {
		return 0, false
	}
	*step++
	return list[*step-1], true
}

// allowed returns the states to which the steps of a fan lead that a node allows.
func (g *graph) allowed(f fan, node int32) []int32 {
	all := spread{f.low, f.to(f.choice.count - 1), node}
	list, ok := g.lists[all]
	if !ok {
		for i := range f.choice.count {
			if to := f.to(i); g.isPair(pair{to, node}) {
				list = append(list, to)
			}
		}
		g.lists[all] = list
	}
	return list
}
