package buchi

import (
	"slices"

	"plumbline/api"
	"plumbline/gba"
	"plumbline/nodes"
)

// Of returns an automaton that accepts the same words as g. It returns ErrMany if it
// would have too many nodes.
func Of(g gba.Gba) (Auto, api.Errno) {
	c := counter{g: g, number: map[pair]int{}}
	a := Auto{First: c.enter(g.First, 0)}
	for i := 0; i < len(c.pairs) && len(c.pairs) <= api.MaxNodes; i++ {
		p := c.pairs[i]
		n := g.Nodes[p.node]
		a.Nodes = append(a.Nodes, gba.Node{
			Must:  append([]int(nil), n.Must...),
			Never: append([]int(nil), n.Never...),
			Next:  c.enter(n.Next, c.after(p)),
		})
		a.Good = append(a.Good, p.set == 0 && (len(g.Sets) == 0 || slices.Contains(g.Sets[0], p.node)))
	}
	if len(c.pairs) > api.MaxNodes {
		return Auto{}, api.ErrMany
	}
	return a, api.OK
}

// pair is a node of a gba.Gba, and the one of its Sets of which a node is awaited.
type pair struct{ node, set int }

// counter contains the pairs that have been reached, and their numbers.
type counter struct {
	g      gba.Gba
	pairs  []pair
	number map[pair]int
	lists  int   // how many lists have been entered
	last   []int // the last of these lists that contains each pair, counted from 1
}

// after returns which of the Sets is awaited behind a pair.
func (c *counter) after(p pair) int {
	if len(c.g.Sets) > 0 && slices.Contains(c.g.Sets[p.set], p.node) {
		return (p.set + 1) % len(c.g.Sets)
	}
	return p.set
}

// enter returns the different numbers of the pairs of the nodes in a list and a set, in
// the order of the list, after adding the new ones.
func (c *counter) enter(list []int, set int) []int {
	c.lists++
	var numbers []int
	for _, node := range list {
		if !nodes.Exists(node, len(c.g.Nodes)) {
			continue
		}
		i := c.of(pair{node, set})
		if c.last[i] != c.lists {
			c.last[i] = c.lists
			numbers = append(numbers, i)
		}
	}
	return numbers
}

// of returns the number of a pair, after adding it if it is new.
func (c *counter) of(p pair) int {
	i, ok := c.number[p]
	if !ok {
		i = len(c.pairs)
		c.pairs = append(c.pairs, p)
		c.last = append(c.last, 0)
		c.number[p] = i
	}
	return i
}
