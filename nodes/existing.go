package nodes

import "slices"

// Existing returns the different numbers in a list of those of n nodes, in increasing
// order.
func Existing(list []int, n int) []int32 {
	var all []int32
	for _, node := range list {
		if Exists(node, n) {
			all = append(all, int32(node))
		}
	}
	slices.Sort(all)
	return slices.Compact(all)
}
