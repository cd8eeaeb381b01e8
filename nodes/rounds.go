package nodes

import (
	"math"
	"slices"
)

// Rounds returns for each node the number of its group, from 0 on, or -1 if the node
// cannot be reached from itself by one or more edges. Nodes are in the same group
// exactly if each of them can be reached from the other. The lists of next contain the
// ends of the edges of each node; numbers of nodes that do not exist are ignored.
func Rounds(next [][]int) []int {
	n := len(next)
	s := &search{next: next, entered: make([]int, n), low: make([]int, n), tried: make([]int, n), group: make([]int, n)}
	for v := range next {
		if s.entered[v] == 0 {
			s.from(v)
		}
	}
	return s.group
}

// search is Tarjan's depth-first search. It keeps its path itself, since a path can be
// too long for calls within one another.
type search struct {
	next    [][]int
	path    []int // nodes that are entered and not left
	open    []int // nodes that are entered and whose group is not known
	steps   int   // how many nodes are entered
	entered []int // the step in which a node was entered; 0 before, and greater than all steps when its group is known
	low     []int // the earliest step in which an open node was entered that is known to be reachable
	tried   []int // how many edges of a node have been followed
	group   []int
	groups  int
}

// from visits all nodes that can be reached from a node and are not entered.
func (s *search) from(root int) {
	s.enter(root)
	for len(s.path) > 0 {
		v := s.path[len(s.path)-1]
		if s.tried[v] == len(s.next[v]) {
			s.leave(v)
			continue
		}
		to := s.next[v][s.tried[v]]
		s.tried[v]++
		switch {
		case !Exists(to, len(s.next)):
		case s.entered[to] == 0:
			s.enter(to)
		default:
			s.low[v] = min(s.low[v], s.entered[to])
		}
	}
}

func (s *search) enter(v int) {
	s.steps++
	s.entered[v], s.low[v] = s.steps, s.steps
	s.path = append(s.path, v)
	s.open = append(s.open, v)
}

// leave ends the visit of the last node of the path.
func (s *search) leave(v int) {
	s.path = s.path[:len(s.path)-1]
	if s.low[v] == s.entered[v] {
		s.close(v)
	} else { // then v was entered from a node, as the first one reaches none before it
		up := s.path[len(s.path)-1]
		s.low[up] = min(s.low[up], s.low[v])
	}
}

// close determines the group of a node and of those that were entered behind it.
func (s *search) close(v int) {
	i := len(s.open) - 1
	for s.open[i] != v {
		i--
	}
	group := s.groups
	if i == len(s.open)-1 && !slices.Contains(s.next[v], v) {
		group = -1
	} else {
		s.groups++
	}
	for _, u := range s.open[i:] {
		s.entered[u], s.group[u] = math.MaxInt, group
	}
	s.open = s.open[:i]
}
