package dfs

import "plumbline/abstr"

// more is the state of a search that goes on.
const more = 0

// search is a nested depth-first search: from each good pair that the first search
// leaves, a second search looks for a way back to it. What second searches have visited
// from other pairs need not be visited again: it could lead to a pair that is left later
// only if there had been a way back to one of the others.
type search struct {
	*graph
	left          int // fuel
	first, second walk
}

// walk is a depth-first search of pairs. Its path leads from the pair where it starts to
// the one whose edges are followed, and it ends if one of them leads to the goal.
type walk struct {
	goal pair
	path []visit
	seen map[pair]struct{}
}

func (w *walk) has(p pair) bool {
	_, ok := w.seen[p]
	return ok
}

func (w *walk) back() {
	w.path = w.path[:len(w.path)-1]
}

func newSearch(g *graph, fuel int) *search {
	nowhere := pair{-1, -1}
	return &search{
		graph:  g,
		left:   fuel,
		first:  walk{goal: nowhere, seen: map[pair]struct{}{}},
		second: walk{seen: map[pair]struct{}{}},
	}
}

// run searches from all first pairs.
func (s *search) run(starts []abstr.Abs) int {
	for _, start := range starts {
		number := s.number(start)
		for _, node := range s.initial {
			from := pair{number, node}
			if s.first.has(from) || !s.isPair(from) {
				continue
			}
			if state := s.from(from); state != None {
				return state
			}
		}
	}
	return None
}

// from visits a pair, and then all pairs that can be reached from it and have not been
// visited. It looks for a way back to each pair that it leaves.
func (s *search) from(at pair) int {
descend:
	if !s.visit(&s.first, at) {
		return Fuel
	}
	for len(s.first.path) > 0 {
		to, state := s.step(&s.first)
		switch state {
		case more:
			at = to
			goto descend
		case Fuel:
			return Fuel
		}
		last := s.first.path[len(s.first.path)-1]
		if state := s.wayBack(last.at); state != None {
			return state
		}
		s.first.back()
	}
	return None
}

// wayBack looks for a way from a pair, if it is good, back to it.
func (s *search) wayBack(p pair) int {
	if !s.isGood(p) {
		return None
	}
	s.second.goal = p
	if !s.visit(&s.second, p) {
		return Fuel
	}
	for len(s.second.path) > 0 {
		to, state := s.step(&s.second)
		switch {
		case state == Found:
			return Found
		case state == Fuel, state == more && !s.visit(&s.second, to):
			return Fuel
		case state == None:
			s.second.back()
		}
	}
	return None
}

// step follows edges from the end of the path of a walk up to the first one that leads to
// its goal, or to a pair that has not been visited, which it returns with more. It returns
// None if there is no such edge.
func (s *search) step(w *walk) (pair, int) {
	last := &w.path[len(w.path)-1]
	for {
		to, ok := s.follow(last)
		switch {
		case !ok:
			return pair{}, None
		case !s.spend():
			return pair{}, Fuel
		case to == w.goal:
			return pair{}, Found
		case !w.has(to):
			return to, more
		}
	}
}

// visit appends a pair to the path of a walk, or returns false if the fuel is not
// sufficient for it and for the steps of its abstract state.
func (s *search) visit(w *walk, p pair) bool {
	if !s.spend() {
		return false
	}
	left, ok := s.expand(p.state, s.left)
	s.left = left
	w.seen[p] = struct{}{}
	w.path = append(w.path, visit{at: p})
	return ok
}

// spend consumes a unit of fuel, or returns false if there is none left.
func (s *search) spend() bool {
	if s.left == 0 {
		return false
	}
	s.left--
	return true
}
