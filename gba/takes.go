package gba

import (
	"slices"

	"plumbline/nodes"
	"plumbline/word"
)

// Takes reports whether g accepts w.
func Takes(g Gba, w word.Word) bool {
	if len(w.Cycle) == 0 {
		return false
	}
	p := product{g: g, letters: slices.Concat(w.Stem, w.Cycle), back: len(w.Stem), number: map[pair]int{}}
	p.reach()
	return p.accepts(nodes.Rounds(p.next))
}

// pair is a node, and a position of a word that it allows.
type pair struct{ node, at int }

// product contains the pairs that can be reached in an automaton and a word, which has
// letters, and continues with the one with index back behind the last. Each pair has a
// number, and the numbers of its successors.
type product struct {
	g       Gba
	letters [][]bool
	back    int
	pairs   []pair
	number  map[pair]int
	next    [][]int
}

// reach finds all pairs.
func (p *product) reach() {
	p.enter(p.g.First, 0)
	for i := 0; i < len(p.pairs); i++ {
		now := p.pairs[i]
		at := now.at + 1
		if at == len(p.letters) {
			at = p.back
		}
		p.next = append(p.next, p.enter(p.g.Nodes[now.node].Next, at))
	}
}

// enter returns the numbers of those pairs of a node in a list and a position that are
// allowed, after adding the new ones.
func (p *product) enter(list []int, at int) []int {
	var numbers []int
	for _, node := range list {
		to := pair{node, at}
		i, ok := p.number[to]
		if !ok && p.allows(to) {
			i, ok = len(p.pairs), true
			p.pairs = append(p.pairs, to)
			p.number[to] = i
		}
		if ok {
			numbers = append(numbers, i)
		}
	}
	return numbers
}

// allows reports whether the node of a pair exists and allows the letter at the position.
func (p *product) allows(to pair) bool {
	if !exists(p.g, to.node) {
		return false
	}
	n := p.g.Nodes[to.node]
	return nodes.Allow(n.Must, n.Never, p.letters[to.at])
}

// accepts reports whether there is a group of pairs that can be gone around forever and
// that contains nodes of each of the Sets. The groups are those of the pairs, or -1.
func (p *product) accepts(groups []int) bool {
	groupsOf := make([][]int, len(p.g.Nodes)) // of the pairs of each node
	for to, number := range p.number {
		if group := groups[number]; group >= 0 {
			groupsOf[to.node] = append(groupsOf[to.node], group)
		}
	}
	met := make([]int, len(groups)) // how many of the Sets, from the first on, each group has met
	for i, set := range p.g.Sets {
		for _, node := range set {
			if !exists(p.g, node) {
				continue
			}
			for _, group := range groupsOf[node] {
				if met[group] == i {
					met[group]++
				}
			}
		}
	}
	return slices.ContainsFunc(groups, func(group int) bool { return group >= 0 && met[group] == len(p.g.Sets) })
}
