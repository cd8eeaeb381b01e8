package dfs

import (
	"slices"

	"plumbline/abstr"
)

// hop is the number of an abstract state, and the act that follows it.
type hop struct {
	state int32
	act   int
}

// found returns the lasso that consists of the ways of both searches. The last pair of
// the first one is the first pair of the second one.
func (s *search) found() Lasso {
	stem, cycle := s.hops(s.first.path[:len(s.first.path)-1]), s.hops(s.second.path)
	stem, cycle = shortest(stem, cycle)
	l := Lasso{Stem: s.states(stem), Cycle: s.states(cycle)}
	for _, h := range slices.Concat(stem, cycle) {
		l.Acts = append(l.Acts, h.act)
	}
	return l
}

func (s *search) hops(path []visit) []hop {
	var all []hop
	for _, v := range path {
		all = append(all, hop{v.at.state, s.places[v.at.state].steps[v.step].act})
	}
	return all
}

// states returns the abstract states of hops, each in new memory.
func (s *search) states(hops []hop) []abstr.Abs {
	var all []abstr.Abs
	for _, h := range hops {
		a := s.places[h.state].abs
		all = append(all, abstr.Abs{Locs: append([]int(nil), a.Locs...), Bits: append([]bool(nil), a.Bits...)})
	}
	return all
}

// shortest returns the shortest stem and cycle, which is not empty, with the same infinite
// sequence of hops. Pairs that differ only by their nodes may have made them longer, and
// every hop makes the questions about a lasso longer.
func shortest(stem, cycle []hop) ([]hop, []hop) {
	cycle = cycle[:period(cycle)]
	shift := 0
	for shift < len(stem) && stem[len(stem)-1-shift] == cycle[len(cycle)-1-shift%len(cycle)] {
		shift++
	}
	turn := len(cycle) - shift%len(cycle)
	return stem[:len(stem)-shift], slices.Concat(cycle[turn:], cycle[:turn])
}

// period returns the least number of hops of which a cycle is a repetition.
func period(cycle []hop) int {
	for n := 1; n <= len(cycle)/2; n++ {
		if len(cycle)%n == 0 && slices.Equal(cycle[n:], cycle[:len(cycle)-n]) {
			return n
		}
	}
	return len(cycle)
}
