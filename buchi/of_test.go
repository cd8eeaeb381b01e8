package buchi_test

import (
	"math/rand"
	"slices"
	"testing"

	"plumbline/api"
	"plumbline/buchi"
	"plumbline/gba"
)

// TestP17_1Of: automata made by hand.
func TestP17_1Of(t *testing.T) {
	for _, x := range []struct{ g, want string }{
		// no Sets: all pairs are good
		{"0; 0 > 1; > 1", "0; *0 > 1; *> 1"}, {"1 0; 0 > 0 1; 1 > 1", "0 1; *1 > 0; *0 > 1 0"}, {"0; 7 8 ! 9 > 0", "0; *7 8 ! 9 > 0"}, {"0; 5 3 3 ! 2 -1 2 > 0", "0; *5 3 3 ! 2 -1 2 > 0"},
		// one of them
		{"0 2; 1 > 1; > 1; 0 > 0 2; {0 1}", "0 1; *1 > 2; 0 > 0 1; *> 2"}, {"0 1; 0 > 0 1; > 0 1; {0}", "0 1; *0 > 0 1; > 0 1"}, {"0; > 0 1; > 0; {}", "0; > 0 1; > 0"}, {"0; > 0 1; > 0; {1}", "0; > 0 1; *> 0"},
		// several: n with i, and with i + 1 if n is in the i-th
		{"0; > 0; {0}; {0}", "0; *> 1; > 0"}, {"0; > 0; {0}; {0}; {0}", "0; *> 1; > 2; > 0"}, {"0; > 0; {0}; {}", "0; *> 1; > 1"}, {"0; > 0; {}; {0}", "0; > 0"}, {"0; > 0 1; > 0; {0}; {1}", "0; *> 1 2; > 1 2; > 0"}, {"0; > 0 1; > 0; {1}; {0}", "0; > 0 1; *> 2; > 0 1"}, {"0; > 1 2; > 0; > 0; {1}; {2}", "0; > 1 2; *> 3; > 0; > 4 5; > 3; > 0"},
		// the order of lists
		{"0; > 2 1 0; > 2; > 1", "0; *> 1 2 0; *> 2; *> 1"}, {"2 0 1; 0 >; 1 >; 2 >", "0 1 2; *2 >; *0 >; *1 >"}, {"0; > 3 2; > 0; > 1; > 2", "0; *> 1 2; *> 2; *> 3; *> 0"},
		// what cannot be reached, does not exist, or is there already
		{"0; 0 > 0; 1 > 0; 2 > 1", "0; *0 > 0"}, {"", ""}, {"0 1", ""}, {"; > 0", ""}, {"; > 0; {0}", ""}, {"0; >", "0; *>"}, {"-1 1 0 5 0; > -1 0 1 0", "0; *> 0"}, {"5; > 0", ""}, {"0; > 1 0 1 0 1; > -2 1 1; {-1 1 1 2}", "0; > 1 0; *> 1"}, {"1 1 0 0; > 1 1 0; > 0 9; {4}", "0 1; > 1; > 0 1"}, {"0; > 0; {-1}; {0}", "0; > 0"}, {"0; > 4611686018427387904 0 -4611686018427387904; {4611686018427387904 0}", "0; *> 0"},
	} {
		a, e := buchi.Of(general(x.g))
		if e != api.OK || len(a.Good) != len(a.Nodes) {
			t.Errorf("%s: error %d, %d flags", x.g, e, len(a.Good))
		}
		expect(t, x.g, toldAuto(a), x.want)
		byRules, _ := degeneralized(general(x.g))
		expect(t, x.g+" by the rules", toldAuto(byRules), x.want)
	}
}

// degeneralized is what the document says of Of, and false if there are too many pairs.
func degeneralized(g gba.Gba) (buchi.Auto, bool) {
	type pair struct{ n, i int }
	var all []pair
	number := func(p pair) int {
		if at := slices.Index(all, p); at >= 0 {
			return at
		}
		all = append(all, p)
		return len(all) - 1
	}
	listed := func(list []int, i int) []int {
		var to []int
		for _, n := range list {
			if n >= 0 && n < len(g.Nodes) && !slices.Contains(to, number(pair{n, i})) {
				to = append(to, number(pair{n, i}))
			}
		}
		return to
	}
	a := buchi.Auto{First: listed(g.First, 0)}
	for at := 0; at < len(all) && at < 5000; at++ {
		n, i := all[at].n, all[at].i
		then := i
		good := len(g.Sets) == 0
		if len(g.Sets) > 0 && slices.Contains(g.Sets[i], n) {
			good = i == 0
			then++
			if then == len(g.Sets) {
				then = 0
			}
		}
		a.Good = append(a.Good, good)
		a.Nodes = append(a.Nodes, gba.Node{Must: g.Nodes[n].Must, Never: g.Nodes[n].Never, Next: listed(g.Nodes[n].Next, then)})
	}
	return a, len(all) <= 4096
}

// TestP17_2Of: the same words as before, and the pairs of the document.
func TestP17_2Of(t *testing.T) {
	r := rand.New(rand.NewSource(171))
	var all []gba.Gba
	for range 8000 {
		all = append(all, randomGba(r))
	}
	for _, f := range slices.Concat(properties(2000, false), properties(1000, true)) {
		g, _ := gba.Of(f)
		all = append(all, g)
	}
	counts := map[bool]int{}
	for _, g := range all {
		a, e := buchi.Of(g)
		want, ok := degeneralized(g)
		if ok != (e == api.OK) {
			t.Errorf("%s: error %d", toldGba(g), e)
		}
		expect(t, toldGba(g), toldAuto(a), toldAuto(want))
		for range 3 {
			w := randomWord(r)
			takes := gba.Takes(g, w)
			if buchi.Takes(a, w) != takes {
				t.Errorf("%s on %s is not %v", toldGba(g), toldWord(w), takes)
			}
			counts[takes]++
		}
	}
	if counts[true] < 5000 || counts[false] < 5000 {
		t.Errorf("%v", counts)
	}
}

// ring is an automaton of n nodes, one after the other, with Sets of the last one.
func ring(n, sets int) gba.Gba {
	g := gba.Gba{First: []int{0}}
	for i := range n {
		g.Nodes = append(g.Nodes, gba.Node{Next: []int{(i + 1) % n}})
	}
	for range sets {
		g.Sets = append(g.Sets, []int{n - 1})
	}
	return g
}

// TestP17_1MaxNodes: just 4096 pairs, and one more.
func TestP17_1MaxNodes(t *testing.T) {
	star := func(n int) gba.Gba { // all pairs are reached from the first one
		g := gba.Gba{First: []int{0}, Nodes: make([]gba.Node, n)}
		for i := range n {
			g.Nodes[0].Next = append(g.Nodes[0].Next, i)
		}
		return g
	}
	heads := func(n int) gba.Gba { // all pairs are in First
		g := star(n)
		g.First, g.Nodes[0].Next = g.Nodes[0].Next, nil
		return g
	}
	tail := func(g gba.Gba) gba.Gba { // a pair more, with nothing behind it
		g.Nodes = append(g.Nodes, gba.Node{})
		g.First = append(g.First, len(g.Nodes)-1)
		return g
	}
	useless := func(g gba.Gba, n int) gba.Gba { // nodes that are not reached
		for range n {
			g.Nodes = append(g.Nodes, gba.Node{Next: []int{0}})
		}
		return g
	}
	for i, x := range []struct {
		g     gba.Gba
		pairs int
	}{
		{ring(4096, 0), 4096}, {ring(4097, 0), 4097}, {ring(4096, 1), 4096}, {ring(4097, 1), 4097}, {ring(2048, 2), 4096}, {ring(2049, 2), 4098}, {tail(ring(2048, 2)), 4097}, {ring(1024, 4), 4096}, {ring(1, 4096), 4096}, {ring(1, 4097), 4097}, {ring(2, 2048), 4096}, {tail(ring(2, 2048)), 4097}, {ring(1365, 3), 4095}, {tail(ring(1365, 3)), 4096}, {tail(tail(ring(1365, 3))), 4097},
		{star(4096), 4096}, {star(4097), 4097}, {heads(4096), 4096}, {heads(4097), 4097}, {star(100000), 100000}, {useless(ring(4096, 0), 5000), 4096}, {useless(ring(2048, 2), 5000), 4096}, {useless(ring(4097, 0), 5000), 4097}, {ring(1<<20, 3), 3 << 20}, {ring(3, 1<<20), 3 << 20},
	} {
		a, e := buchi.Of(x.g)
		if x.pairs > api.MaxNodes {
			if e != api.ErrMany || len(a.Nodes) != 0 || len(a.First) != 0 || len(a.Good) != 0 {
				t.Errorf("case %d: error %d, %d nodes", i, e, len(a.Nodes))
			}
		} else if e != api.OK || len(a.Nodes) != x.pairs || len(a.Good) != x.pairs {
			t.Errorf("case %d: error %d, %d nodes", i, e, len(a.Nodes))
		}
	}
}
