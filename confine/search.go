package confine

import (
	"slices"

	"plumbline/api"
	"plumbline/buchi"
	"plumbline/nodes"
)

// The states of an answer.
const (
	Found = iota + 1
	None
	Fuel
)

// more is the state of a search that goes on.
const more = 0

// Answer is what is known: the Run, if it is Found, and the remaining fuel.
type Answer struct {
	State int
	Run   api.Run
	Left  int
}

// Search searches for a valid run whose word a accepts.
func Search(s api.Sys, ps []api.Prop, a buchi.Auto, fuel int) Answer {
	fuel = min(max(fuel, 0), api.MaxFuel)
	c, ok := spaceOf(s)
	if !ok {
		return Answer{State: Fuel, Left: fuel}
	}
	nested := newSearch(graphOf(c, ps, a), fuel)
	state := nested.run()
	answer := Answer{State: state, Left: nested.left}
	if state == Found {
		answer.Run = nested.found()
	}
	return answer
}

// search is a nested depth-first search: from each good pair that the outer walk leaves,
// the inner walk looks for a way back to it. What the inner walk has visited from other
// pairs need not be visited again: it could lead to a pair that is left later only if
// there had been a way back to one of the others.
type search struct {
	*graph
	left         int // fuel
	outer, inner walk
}

// walk is a depth-first search of pairs. Its path leads from the pair where it starts to
// the one whose edges are followed, and it ends if one of them leads to the goal.
type walk struct {
	goal pair
	path []visit
	seen marks
}

// marks are pairs that have been visited: a bit for each state of a block.
type marks map[block]uint64

// block stands for the pairs of a node and of 64 states, from 64 times the number on.
type block struct{ number, node int32 }

func (m marks) add(p pair) {
	m[block{p.state / 64, p.node}] |= 1 << (p.state % 64)
}

func (m marks) has(p pair) bool {
	return m[block{p.state / 64, p.node}]>>(p.state%64)&1 == 1
}

func newSearch(g *graph, fuel int) *search {
	nowhere := pair{-1, -1}
	return &search{
		graph: g,
		left:  fuel,
		outer: walk{goal: nowhere, seen: marks{}},
		inner: walk{seen: marks{}},
	}
}

// run searches from all first pairs.
func (s *search) run() int {
	for n := range s.firsts() {
		for _, node := range s.auto.First {
			if !nodes.Exists(node, len(s.auto.Nodes)) {
				continue
			}
			first := pair{int32(n), int32(node)}
			if s.outer.seen.has(first) || !s.isPair(first) {
				continue
			}
			if state := s.walk(&s.outer, first, s.wayBack); state != None {
				return state
			}
		}
	}
	return None
}

// wayBack looks for a way from a good pair back to it.
func (s *search) wayBack(p pair) int {
	if !s.isGood(p) {
		return None
	}
	s.inner.goal = p
	return s.walk(&s.inner, p, func(pair) int { return None })
}

// walk visits a pair, and then all pairs that can be reached from it and have not been
// visited. It calls leave for each pair that it leaves, and ends if that does not return
// None.
func (s *search) walk(w *walk, from pair, leave func(pair) int) int {
	if !s.visit(w, from) {
		return Fuel
	}
	for len(w.path) > 0 {
		switch state := s.step(w); state {
		case Found, Fuel:
			return state
		case None:
			last := len(w.path) - 1
			if state := leave(w.path[last].at); state != None {
				return state
			}
			w.path = w.path[:last]
		}
	}
	return None
}

// step follows edges from the end of the path of a walk up to the first one that leads to
// its goal, or to a pair that has not been visited, which is then visited. It returns
// None if there is no such edge.
func (s *search) step(w *walk) int {
	last := &w.path[len(w.path)-1]
	for {
		to, ok := s.follow(last)
		switch {
		case !ok:
			return None
		case !s.spend():
			return Fuel
		case to == w.goal:
			return Found
		}
		if w.seen.has(to) {
			continue
		}
		if !s.visit(w, to) {
			return Fuel
		}
		return more
	}
}

// visit appends a pair to the path of a walk, or returns false if there is no fuel left.
func (s *search) visit(w *walk, p pair) bool {
	if !s.spend() {
		return false
	}
	w.seen.add(p)
	w.path = append(w.path, visit{at: p})
	return true
}

// spend consumes a unit of fuel, or returns false if there is none left.
func (s *search) spend() bool {
	if s.left == 0 {
		return false
	}
	s.left--
	return true
}

// found returns the run that consists of the ways of both walks. The last pair of the
// outer one is the first pair of the inner one.
func (s *search) found() api.Run {
	var r api.Run
	stem := s.outer.path[:len(s.outer.path)-1]
	for _, v := range stem {
		r.Stem = append(r.Stem, s.state(int(v.at.state)))
	}
	for _, v := range s.inner.path {
		r.Cycle = append(r.Cycle, s.state(int(v.at.state)))
	}
	for _, v := range slices.Concat(stem, s.inner.path) {
		r.Acts = append(r.Acts, int(s.fansOf(v.at.state)[v.fan].act))
	}
	return r
}
