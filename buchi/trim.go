package buchi

import (
	"slices"

	"plumbline/gba"
	"plumbline/nodes"
)

// Trim removes the nodes that are on no way from First to a good node that can be
// reached from itself.
func Trim(a Auto) Auto {
	next := make([][]int, len(a.Nodes))
	for n := range a.Nodes {
		next[n] = a.Nodes[n].Next
	}
	var goals []int
	for n, group := range nodes.Rounds(next) {
		if group >= 0 && isGood(a, n) {
			goals = append(goals, n)
		}
	}
	reached, useful := reach(next, a.First), reach(backward(next), goals)
	numbers, count := make([]int, len(a.Nodes)), 0
	for n := range numbers {
		numbers[n] = -1
		if reached[n] && useful[n] {
			numbers[n] = count
			count++
		}
	}
	return renumbered(a, numbers)
}

// reach returns for each node whether it can be reached from one in a list by zero or
// more edges.
func reach(next [][]int, list []int) []bool {
	is := make([]bool, len(next))
	var found []int
	enter := func(list []int) {
		for _, n := range list {
			if nodes.Exists(n, len(next)) && !is[n] {
				is[n] = true
				found = append(found, n)
			}
		}
	}
	enter(list)
	for i := 0; i < len(found); i++ {
		enter(next[found[i]])
	}
	return is
}

// backward returns the edges in the opposite direction.
func backward(next [][]int) [][]int {
	back := make([][]int, len(next))
	for from, list := range next {
		for _, to := range list {
			if nodes.Exists(to, len(next)) {
				back[to] = append(back[to], from)
			}
		}
	}
	return back
}

// renumbered returns a with new numbers, which increase, of its nodes. Nodes with -1 are
// removed.
func renumbered(a Auto, numbers []int) Auto {
	kept := Auto{First: renumberedList(a.First, numbers)}
	for n, number := range numbers {
		if number < 0 {
			continue
		}
		old := a.Nodes[n]
		kept.Nodes = append(kept.Nodes, gba.Node{
			Must:  append([]int(nil), old.Must...),
			Never: append([]int(nil), old.Never...),
			Next:  renumberedList(old.Next, numbers),
		})
		kept.Good = append(kept.Good, isGood(a, n))
	}
	return kept
}

// renumberedList returns the different new numbers of the nodes in a list that are kept,
// in increasing order.
func renumberedList(list, numbers []int) []int {
	var kept []int
	for _, n := range list {
		if nodes.Exists(n, len(numbers)) && numbers[n] >= 0 {
			kept = append(kept, numbers[n])
		}
	}
	slices.Sort(kept)
	return slices.Compact(kept)
}
