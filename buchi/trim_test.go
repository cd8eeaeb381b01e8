package buchi_test

import (
	"math/rand"
	"slices"
	"testing"

	"plumbline/buchi"
	"plumbline/gba"
)

// TestP17_1Trim: automata made by hand.
func TestP17_1Trim(t *testing.T) {
	for _, x := range []struct{ a, want string }{
		{"", ""}, {"0", ""}, {"0; *>", ""}, {"0; *> 0", "0; *> 0"}, {"0; > 0", ""}, {"; *> 0", ""}, {"0; > 1; *> 1", "0; > 1; *> 1"}, {"1; > 1; *> 1", "0; *> 0"}, {"1; *> 1; > 1", ""},
		// good, but not on a cycle; a cycle without a good node; an edge to itself
		{"0; *> 1; > 1", ""}, {"0; *> 1; > 2; > 1", ""}, {"0; *> 1; > 2; *> 1", "0; *> 1; > 2; *> 1"}, {"0; > 1 2; *> 3; > 2; >", ""}, {"0; > 1; *> 2; > 0", "0; > 1; *> 2; > 0"}, {"0; > 1; *> 2; *> 2", "0; > 1; *> 2; *> 2"}, {"0; > 0 1; *> 2; > 2", ""}, {"0; > 1; > 2; > 3 1; *>", ""}, {"0; > 1; > 2; > 3 1; *> 3", "0; > 1; > 2; > 1 3; *> 3"},
		// what is not reached, or leads nowhere
		{"0; *> 0 1; > 1; *> 0", "0; *> 0"}, {"2; *> 0; *> 1; > 1 3; > 3", "1; *> 0; > 0"}, {"0 1; > 2; > 3; *> 2; > 3", "0; > 1; *> 1"}, {"0 3; > 1; > 2; *> 1; > 3", "0; > 1; > 2; *> 1"}, {"3 0; > 1; > 0; *> 2; > 2", "1; *> 0; > 0"},
		// the order of nodes and lists
		{"3 1; *> 0; > 2 0; > 0; > 2 1 0", "1 3; *> 0; > 0 2; > 0; > 0 1 2"}, {"4 2 0; > 4 2 0; > 0; *3 ! 1 > 4 0; *>; 2 ! 5 6 > 2 3 1", "0 2 3; > 0 2 3; > 0; *3 ! 1 > 0 3; 2 ! 5 6 > 1 2"},
		// nodes that do not exist, duplicates, Must and Never as they are
		{"-1 0 1 0 0; *> -1 0 0 1", "0; *> 0"}, {"0 9; *5 5 3 ! 4 4 -1 > 0 9 0", "0; *5 5 3 ! 4 4 -1 > 0"}, {"4611686018427387904 0; *> -4611686018427387904 0", "0; *> 0"}, {"-1 1; *> 0", ""}, {"0; *> 1 -1", ""},
		// flags beyond the nodes
		{"0; *> 0; +; -; +", "0; *> 0"}, {"0; > 0; +", ""}, {"0; +", ""}, {"1; > 1; +", ""},
	} {
		a := buchi.Trim(automaton(x.a))
		expect(t, x.a, toldAuto(a), x.want)
		expect(t, x.a+" by the rules", toldAuto(trimmed(automaton(x.a))), x.want)
		if len(a.Good) != len(a.Nodes) || buchi.Empty(automaton(x.a)) != (len(a.Nodes) == 0) {
			t.Errorf("%s: %d flags", x.a, len(a.Good))
		}
	}
	short := automaton("0; > 1; *> 1; *> 2")
	for n, want := range []string{"", "", "0; > 1; *> 1", "0; > 1; *> 1"} {
		a := short
		a.Good = a.Good[:n]
		expect(t, "fewer flags", toldAuto(buchi.Trim(a)), want)
	}
}

// trimmed is what the document says of Trim.
func trimmed(a buchi.Auto) buchi.Auto {
	n := len(a.Nodes)
	way := make([][]bool, n) // by zero or more edges
	for i := range way {
		way[i] = make([]bool, n)
		way[i][i] = true
		for j := range n {
			way[i][j] = way[i][j] || slices.Contains(a.Nodes[i].Next, j)
		}
	}
	for k := range n {
		for i := range n {
			for j := range n {
				way[i][j] = way[i][j] || way[i][k] && way[k][j]
			}
		}
	}
	kept := func(i int) bool {
		reached, useful := false, false
		for j := range n {
			reached = reached || slices.Contains(a.First, j) && way[j][i]
			if j < len(a.Good) && a.Good[j] && way[i][j] {
				for k := range n { // an edge of j, and a way back
					useful = useful || slices.Contains(a.Nodes[j].Next, k) && way[k][j]
				}
			}
		}
		return reached && useful
	}
	var old []int
	for i := range n {
		if kept(i) {
			old = append(old, i)
		}
	}
	renumbered := func(list []int) []int {
		var all []int
		for number, i := range old {
			if slices.Contains(list, i) {
				all = append(all, number)
			}
		}
		return all
	}
	b := buchi.Auto{First: renumbered(a.First)}
	for _, i := range old {
		b.Nodes = append(b.Nodes, gba.Node{Must: a.Nodes[i].Must, Never: a.Nodes[i].Never, Next: renumbered(a.Nodes[i].Next)})
		b.Good = append(b.Good, i < len(a.Good) && a.Good[i])
	}
	return b
}

// TestP17_2Trim: the same words as before, and the nodes of the document. What is
// trimmed already remains as it is.
func TestP17_2Trim(t *testing.T) {
	r := rand.New(rand.NewSource(172))
	var all []buchi.Auto
	for range 12000 {
		all = append(all, randomAuto(r))
	}
	for _, f := range slices.Concat(properties(1500, false), properties(1000, true)) {
		g, _ := gba.Of(f)
		if a, _ := buchi.Of(g); len(a.Nodes) < 100 {
			all = append(all, a)
		}
	}
	counts, some, empty := map[bool]int{}, 0, 0
	for _, a := range all {
		b := buchi.Trim(a)
		expect(t, toldAuto(a), toldAuto(b), toldAuto(trimmed(a)))
		expect(t, toldAuto(a)+" again", toldAuto(buchi.Trim(b)), toldAuto(b))
		if len(b.Good) != len(b.Nodes) {
			t.Errorf("%s: %d flags", toldAuto(a), len(b.Good))
		}
		if buchi.Empty(a) != (len(b.Nodes) == 0) || buchi.Empty(b) != buchi.Empty(a) {
			t.Errorf("Empty of %s", toldAuto(a))
		}
		if len(b.Nodes) == 0 {
			empty++
		} else if len(b.Nodes) < len(a.Nodes) {
			some++
		}
		for range 3 {
			w := randomWord(r)
			takes := buchi.Takes(a, w)
			if buchi.Takes(b, w) != takes {
				t.Errorf("%s on %s is not %v", toldAuto(a), toldWord(w), takes)
			}
			counts[takes]++
		}
	}
	if counts[true] < 1500 || counts[false] < 5000 || some < 1000 || empty < 1000 {
		t.Errorf("%v, %d, %d", counts, some, empty)
	}
}

// TestP17_1TrimMuch: automata with many nodes and edges.
func TestP17_1TrimMuch(t *testing.T) {
	const n = 1 << 20
	g := ring(n, 0)
	a := buchi.Auto{Nodes: g.Nodes, First: []int{n / 2}, Good: make([]bool, n)}
	if !buchi.Empty(a) {
		t.Error("nothing is good")
	}
	a.Good[n/2-1] = true
	b := buchi.Trim(a)
	if len(b.Nodes) != n || buchi.Empty(a) || !b.Good[n/2-1] || b.First[0] != n/2 || b.Nodes[n-1].Next[0] != 0 {
		t.Error("a ring")
	}
	a.Nodes[n-1].Next = nil
	if len(buchi.Trim(a).Nodes) != 0 || !buchi.Empty(a) {
		t.Error("a ring that is cut")
	}
	a.Nodes[n-1].Next, a.Good[n-1] = []int{n - 1}, true
	b = buchi.Trim(a)
	if len(b.Nodes) != n/2 || b.First[0] != 0 || b.Nodes[0].Next[0] != 1 || !b.Good[n/2-1] || b.Good[0] {
		t.Error("half a ring")
	}
	wide := buchi.Auto{First: []int{0}}
	for range 1000 {
		next := make([]int, 1000)
		for i := range next {
			next[i] = 999 - i
		}
		wide.Nodes = append(wide.Nodes, gba.Node{Next: next})
		wide.Good = append(wide.Good, true)
	}
	b = buchi.Trim(wide)
	if len(b.Nodes) != 1000 || !slices.IsSorted(b.Nodes[7].Next) || len(b.Nodes[7].Next) != 1000 {
		t.Error("all edges")
	}
}
