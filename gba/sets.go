package gba

import "math/bits"

// set is a set of numbers, as a value of type sets reads it.
type set uint64

// empty is the set without numbers.
const empty set = 0

// narrow is the width of a set that consists of its bits.
const narrow = 64

// sets reads and changes sets of numbers less than a width. A narrow set is its bits. A
// wider one is the index of its two halves, those of the lower and of the upper numbers,
// which are sets of half the width. Equal halves always have the same index, so two sets
// with the same numbers are equal. A set that is changed shares most of its halves with
// the one before, since the tasks of a construction have many large sets that differ
// little.
type sets struct {
	width  int
	halves [][2]set
	index  map[[2]set]set
}

// setsTo returns sets of numbers less than n.
func setsTo(n int) *sets {
	width := narrow
	for width < n {
		width *= 2
	}
	return &sets{width: width, halves: [][2]set{{}}, index: map[[2]set]set{{}: empty}}
}

// flip returns a with n, if it is not in a, and without it otherwise.
func (s *sets) flip(a set, n int) set {
	return s.flipIn(a, n, s.width)
}

func (s *sets) flipIn(a set, n, width int) set {
	if width == narrow {
		return a ^ 1<<n
	}
	width /= 2
	both := s.halves[a]
	both[n/width] = s.flipIn(both[n/width], n%width, width)
	b, ok := s.index[both]
	if !ok {
		b = set(len(s.halves))
		s.halves = append(s.halves, both)
		s.index[both] = b
	}
	return b
}

// with returns a with all ns.
func (s *sets) with(a set, ns ...int) set {
	for _, n := range ns {
		if !s.has(a, n) {
			a = s.flip(a, n)
		}
	}
	return a
}

// has reports whether n is in a.
func (s *sets) has(a set, n int) bool {
	for width := s.width; width > narrow; {
		width /= 2
		a, n = s.halves[a][n/width], n%width
	}
	return a>>n&1 == 1
}

// least returns the least number in a, which is not empty.
func (s *sets) least(a set) int {
	from := 0
	for width := s.width; width > narrow; {
		width /= 2
		both := s.halves[a]
		a = both[0]
		if a == empty {
			a = both[1]
			from += width
		}
	}
	return from + bits.TrailingZeros64(uint64(a))
}

// all returns the numbers in a, in increasing order.
func (s *sets) all(a set) []int {
	return s.listed(nil, a, 0, s.width)
}

// listed appends the numbers in a to ns, each increased by from.
func (s *sets) listed(ns []int, a set, from, width int) []int {
	switch {
	case a == empty:
		return ns
	case width > narrow:
		width /= 2
		both := s.halves[a]
		ns = s.listed(ns, both[0], from, width)
		return s.listed(ns, both[1], from+width, width)
	}
	for ; a != empty; a &= a - 1 {
		ns = append(ns, from+bits.TrailingZeros64(uint64(a)))
	}
	return ns
}
