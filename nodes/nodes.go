// Package nodes contains what the automata of layers 16 and 17 have in common: which
// nodes exist, which letters a node allows, and which nodes are on a round.
package nodes

import "slices"

// Allow reports whether all atoms in must hold in a letter, and those in never do not.
func Allow(must, never []int, letter []bool) bool {
	holds := func(atom int) bool { return Exists(atom, len(letter)) && letter[atom] }
	lacks := func(atom int) bool { return !holds(atom) }
	return !slices.ContainsFunc(must, lacks) && !slices.ContainsFunc(never, holds)
}

// Exists reports whether i is a number of one of n things.
func Exists(i, n int) bool {
	return i >= 0 && i < n
}
