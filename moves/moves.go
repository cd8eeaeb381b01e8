// Package moves contains what the layers about the steps of a system have in common:
// which Moves of an act count.
package moves

import (
	"cmp"
	"slices"

	"plumbline/api"
)

// First returns the indices of the Moves that count, that is of the first one of each
// variable, in the order of the variables, and true. It returns nil and false if the V of
// a Move is not one of n variables.
func First(ms []api.Move, n int) ([]int, bool) {
	var counting []int
	for i, m := range ms {
		if m.V < 0 || m.V >= n {
			return nil, false
		}
		counting = append(counting, i)
	}
	slices.SortStableFunc(counting, func(i, j int) int { return cmp.Compare(ms[i].V, ms[j].V) })
	return slices.CompactFunc(counting, func(i, j int) bool { return ms[i].V == ms[j].V }), true
}
