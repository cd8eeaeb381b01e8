package gba_test

import (
	"math"
	"math/rand"
	"slices"
	"testing"

	"plumbline/api"
	"plumbline/gba"
	"plumbline/word"
)

// TestP16_1Takes: automata made by hand.
func TestP16_1Takes(t *testing.T) {
	const until = "0 2; 1 > 1; > 1; 0 > 0 2; {0 1}" // a U b
	const fair = "0; > 0 1; 0 > 0 1; {1}"           // X G F a
	const both = "0 1 2; > 0 1 2; 0 ! 1 > 0 1 2; 1 ! 0 > 0 1 2; {1}; {2}"
	for _, x := range []struct {
		g, w string
		want bool
	}{
		{until, "10 / 01", true}, {until, "/ 10", false}, {until, "/ 01", true}, {until, "10 10 01 / 00", true}, {until, "10 00 / 01", false}, {until, "10 / 10 01", true}, {until, "/ 00", false}, {until, "11 / 00", true}, {until, "1 / . 01", false}, {until, "1 / 01 .", true},
		{fair, "/ 1", true}, {fair, "/ 0", false}, {fair, "/ 0 1", true}, {fair, "/ 1 0 0", true}, {fair, "1 1 1 / 0", false}, {fair, "0 0 / 1 0", true}, {fair, "/ 01", false}, {fair, "/ . .", false},
		{both, "/ 10 01", true}, {both, "/ 10", false}, {both, "/ 01", false}, {both, "/ 11", false}, {both, "10 01 10 01 / 10 11", false}, {both, "/ 11 01 00 10", true},
		// a way through the cycle of the word can be longer than the cycle
		{"0; > 1; 0 > 2; > 0; {2}", "/ 1", true}, {"0; > 1; 0 > 2; > 0; {2}", "/ 1 0", false}, {"0; > 1; 0 > 2; > 0; {2}", "/ 0 1", false}, {"0; > 1; 0 > 2; > 0; {2}", "0 / 1", true}, {"0; > 1; 0 > 2; > 0; {2}", "/ 0 1 0", true}, {"0; > 1; 0 > 2; > 0; {2}", "/ 0 1 0 0 1 1", true}, {"0; > 1; 0 > 2; > 0; {2}", "/ 0 1 0 0 0 0", false}, {"0; > 1; 0 > 0", "/ 1 0", false}, {"0; > 1; 0 > 0", "/ 0 1", true}, {"0; > 1; 0 > 0", "/ 0 1 1 1 1", false}, {"0; > 1; 0 > 0", "/ 0 1 1", false}, {"0; > 1; 0 > 0", "/ 1 1 1", true},
		// no node, no First, no Sets, an empty one
		{"", "/ 1", false}, {"0", "/ 1", false}, {"; {}", "/ 1", false}, {"0; {0}", "/ 1", false}, {"; > 0", "/ 1", false}, {"0; > 0", "/ 1", true}, {"0; > 0", "/ .", true}, {"0; > 0; {}", "/ 1", false}, {"0; > 0; {0}", "/ 1", true}, {"0; > 0; {0}; {}", "/ 1", false}, {"0; > 0; {}; {0}", "/ 1", false}, {"0; > 0; {0}; {0}", "/ 1", true}, {"0; >", "/ 1", false}, {"0; > 1; >", "1 / 1", false}, {"0; > 1; > 1", "1 / 1", true}, {"0; > 1; > 1; {0}", "/ 1", false}, {"0; > 1; > 1; {1}", "/ 1", true},
		// nodes that do not exist, and duplicates
		{"-1; > 0", "/ 1", false}, {"1; > 0", "/ 1", false}, {"-1 5 0; > 0", "/ 1", true}, {"0 0 0; > 0 0", "/ 1", true}, {"0; > -1", "/ 1", false}, {"0; > 1", "/ 1", false}, {"0; > -1 1 9 0 9 0", "/ 1", true}, {"0; > 0; {1}", "/ 1", false}, {"0; > 0; {-1}", "/ 1", false}, {"0; > 0; {-1 0 0 1}", "/ 1", true}, {"0; > 0; {4611686018427387904 0 -4611686018427387904}", "/ 1", true}, {"0; > 0; {0 0}; {1}", "/ 1", false},
		// the sets must be met together
		{"0; > 0 1 2; > 1; > 2; {1}; {2}", "/ 1", false}, {"0; > 0 1 2; > 1 2; > 2; {1}; {2}", "/ 1", false}, {"0; > 0 1 2; > 1 2; > 2 1; {1}; {2}", "/ 1", true}, {"0; > 0 1 2; > 1 2; > 2 1; {0 1}; {2}", "/ 1", true}, {"0; > 0 1 2; > 1 2; > 2 1; {0}; {2}", "/ 1", false}, {"0; > 0 1; > 1; {0}; {1}", "/ 1", false}, {"0; > 1 2; > 0; > 0; {1}; {2}", "/ 1", true}, {"0; > 1 2; > 0; > 0; {1}; {2}; {0}", "/ 1", true}, {"0; > 1 2; > 0; > 0; {1}; {2}; {1 2}; {3}", "/ 1", false}, {"0; > 1 2; > 0; >; {1}; {2}", "/ 1", false},
		// Must and Never, also in no order and with duplicates
		{"0; 1 0 0 ! 3 2 2 > 0", "/ 11", true}, {"0; 1 0 0 ! 3 2 2 > 0", "/ 1100", true}, {"0; 1 0 0 ! 3 2 2 > 0", "/ 1110", false}, {"0; 1 0 0 ! 3 2 2 > 0", "/ 1101", false}, {"0; 1 0 0 ! 3 2 2 > 0", "/ 01", false}, {"0; 1 0 0 ! 3 2 2 > 0", "/ 1", false}, {"0; 0 ! 0 > 0", "/ 1", false}, {"0; 0 ! 0 > 0", "/ 0", false}, {"0; -1 > 0", "/ 111", false}, {"0; ! -1 > 0", "/ 111", true}, {"0; ! -9223372036854775808 9223372036854775807 > 0", "/ 1", true}, {"0; 9223372036854775807 > 0", "/ 1", false}, {"0; -9223372036854775808 > 0", "/ 1", false},
		// no word
		{"0; > 0", "1 1 /", false}, {"0; > 0", "/", false}, {"0; > 0; {0}", "1 /", false}, {"", "/", false}, {until, "01 /", false},
	} {
		g, w := automaton(x.g), wordOf(x.w)
		if got := gba.Takes(g, w); got != x.want || accepts(g, w) != x.want {
			t.Errorf("%s on %s: %v", x.g, x.w, got)
		}
	}
	ones := gba.Gba{Nodes: []gba.Node{{Next: []int{0, math.MaxInt, math.MinInt}}}, First: []int{math.MinInt, 0, math.MaxInt}, Sets: [][]int{{math.MaxInt, math.MinInt, 0}, {0}}}
	if !gba.Takes(ones, wordOf("/ 1")) {
		t.Error("numbers that are great")
	}
}

func TestP16_1TakesByRules(t *testing.T) {
	r := rand.New(rand.NewSource(161))
	counts := map[bool]int{}
	for range 12000 {
		g, w := randomGba(r), randomWord(r)
		want := accepts(g, w)
		if gba.Takes(g, w) != want {
			t.Errorf("%s on %s is not %v", toldGba(g), toldWord(w), want)
		}
		if gba.Takes(g, word.Word{Stem: w.Stem}) {
			t.Errorf("%s accepts no word", toldGba(g))
		}
		counts[want]++
	}
	if counts[true] < 1500 || counts[false] < 1500 {
		t.Errorf("%v", counts)
	}
}

// TestP16_2Of: a word is accepted exactly if the property holds for it.
func TestP16_2Of(t *testing.T) {
	r := rand.New(rand.NewSource(162))
	counts := map[bool]int{}
	for _, f := range slices.Concat(properties(4000, false), properties(4000, true)) {
		g, e := gba.Of(f)
		if e != api.OK {
			continue
		}
		for range 5 {
			w := randomWord(r)
			want := word.Holds(f, w, 0)
			if gba.Takes(g, w) != want {
				t.Errorf("%s on %s is not %v", told(f), toldWord(w), want)
			}
			counts[want]++
		}
		if gba.Takes(g, word.Word{}) || gba.Takes(g, wordOf("1 /")) {
			t.Errorf("%s accepts no word", told(f))
		}
	}
	if counts[true] < 8000 || counts[false] < 8000 {
		t.Errorf("%v", counts)
	}
}

// TestP16_2OfOnSmallWords: properties of each kind with kids of each kind.
func TestP16_2OfOnSmallWords(t *testing.T) {
	words := small()
	for i, f := range pairs() {
		g, e := gba.Of(f)
		for j := i % 2; j < len(words); j += 2 {
			if want := word.Holds(f, words[j], 0); e != api.OK || gba.Takes(g, words[j]) != want {
				t.Fatalf("%s on %s is not %v", told(f), toldWord(words[j]), want)
			}
		}
	}
}

// TestP16_2Postponed: a U that is postponed forever, alone and among others.
func TestP16_2Postponed(t *testing.T) {
	for _, x := range []struct {
		f, w string
		want bool
	}{
		{"U a b", "/ 10", false}, {"U a b", "10 10 10 / 10", false}, {"U a b", "10 10 10 / 01", true}, {"F b", "/ 1", false}, {"G F b", "01 / 10", false}, {"& G F a G F b", "/ 10", false}, {"& G F a G F b", "/ 01", false}, {"& G F a G F b", "/ 01 10", true}, {"& G F a G F b", "01 01 / 10", false}, {"& & G F a G F b G F c", "/ 100 010", false}, {"& & G F a G F b G F c", "/ 100 001 010", true}, {"| G F a G F b", "/ 01", true}, {"| G F a G F b", "/ 00", false}, {"U F a b", "/ 10", false}, {"U F a G b", "/ 10 01", false}, {"U F a G b", "10 10 / 01", true}, {"U a U b c", "/ 010", false}, {"U a U b c", "100 010 / 001", true}, {"U U a b c", "/ 100 010", false}, {"U U a b c", "100 010 / 001", true},
		{"U a true", "/ 0", true}, {"U a false", "/ 1", false}, {"U true true", "/ 0", true}, {"F & a ! a", "/ 1", false}, {"! F & a ! a", "/ 1", true}, {"F ! -1", "/ 0", true}, {"F -1", "/ 1", false}, {"F G a", "/ 1 0", false}, {"F G a", "0 0 / 1", true}, {"G R a b", "/ 01", true}, {"G R a b", "/ 11 00", false}, {"! G F a", "1 / 0", true},
	} {
		f, w := prop(x.f), wordOf(x.w)
		g, e := gba.Of(f)
		if e != api.OK || gba.Takes(g, w) != x.want || word.Holds(f, w, 0) != x.want {
			t.Errorf("%s on %s is not %v", x.f, x.w, x.want)
		}
	}
}

// TestP16_2NoWordAndEveryWord: properties for which no word holds, or every word.
func TestP16_2NoWordAndEveryWord(t *testing.T) {
	words := small()
	for _, text := range []string{"false", "& a ! a", "G & a ! a", "F & a ! a", "& G a F ! a", "U a false", "& X a X ! a", "& U a b & ! b G ! b", "-1", "F -1", "R true false", "! true", "?", "& F G a G F ! a", "& R a b ! b"} {
		g, e := gba.Of(prop(text))
		every, e2 := gba.Of(not(prop(text)))
		for _, w := range words {
			if e != api.OK || e2 != api.OK || gba.Takes(g, w) || !gba.Takes(every, w) {
				t.Fatalf("%s on %s", text, toldWord(w))
			}
		}
	}
}

// TestP16_3Negation: one of the automata of a property and of its negation accepts each
// word, and only one.
func TestP16_3Negation(t *testing.T) {
	r := rand.New(rand.NewSource(163))
	checked := 0
	for _, f := range slices.Concat(properties(3000, false), properties(3000, true), pairs()) {
		yes, e := gba.Of(f)
		no, e2 := gba.Of(not(f))
		plain, e3 := gba.Of(word.Plain(f, true))
		if e2 != e3 || toldGba(no) != toldGba(plain) {
			t.Errorf("%s: another automaton of the negation", told(f))
		}
		if e != api.OK || e2 != api.OK {
			continue
		}
		for range 4 {
			w := randomWord(r)
			if gba.Takes(yes, w) == gba.Takes(no, w) {
				t.Errorf("%s and its negation on %s", told(f), toldWord(w))
			}
			checked++
		}
	}
	if checked < 20000 {
		t.Error(checked)
	}
}

// TestP16_1TakesMuch: long ways through automata and words.
func TestP16_1TakesMuch(t *testing.T) {
	const n = 1 << 17
	ring := gba.Gba{Nodes: make([]gba.Node, n), First: []int{0}, Sets: [][]int{{n - 1}, {n / 2}}}
	for i := range ring.Nodes {
		ring.Nodes[i].Next = []int{(i + 1) % n}
	}
	if !gba.Takes(ring, wordOf("/ 1")) || !gba.Takes(ring, wordOf("0 / 1")) {
		t.Error("a ring")
	}
	ring.Nodes[n-2].Next = nil
	if gba.Takes(ring, wordOf("/ 1")) {
		t.Error("a ring that is cut")
	}
	ring.Nodes[n-2].Next, ring.Nodes[n-1].Must = []int{n - 1}, []int{0}
	if !gba.Takes(ring, wordOf("/ 0 1")) || gba.Takes(ring, wordOf("/ 1 0")) {
		t.Error("a ring with an atom")
	}
	long := word.Word{Stem: make([][]bool, n), Cycle: make([][]bool, n)}
	long.Cycle[n-1] = []bool{true}
	for text, want := range map[string]bool{"G F a": true, "F G a": false, "U ! a a": true, "a": false, "G -> a X ! a": true, "G ! a": false, "F & a X a": false} {
		g, e := gba.Of(prop(text))
		if e != api.OK || gba.Takes(g, long) != want {
			t.Errorf("%s is not %v", text, want)
		}
	}
	sets := gba.Gba{Nodes: []gba.Node{{Next: []int{0, 1}}, {Next: []int{0}}}, First: []int{0}, Sets: make([][]int, n)}
	for i := range sets.Sets {
		sets.Sets[i] = []int{i % 2}
	}
	if !gba.Takes(sets, wordOf("/ 1")) {
		t.Error("many Sets")
	}
	sets.Sets[n-1] = nil
	if gba.Takes(sets, wordOf("/ 1")) {
		t.Error("many Sets, and an empty one")
	}
	const m = 1 << 12
	both := gba.Gba{Nodes: ring.Nodes[:m:m], First: []int{0}, Sets: make([][]int, m)}
	both.Nodes[m-1] = gba.Node{Next: []int{0}}
	for i := range both.Sets {
		both.Sets[i] = []int{m - 1 - i}
	}
	if !gba.Takes(both, word.Word{Cycle: make([][]bool, 99)}) {
		t.Error("many nodes and Sets")
	}
}

func TestP16_1Count(t *testing.T) {
	for _, x := range []struct {
		g            string
		nodes, edges int
	}{
		{"", 0, 0}, {"0 1 2", 0, 0}, {"; {0}", 0, 0}, {"0; >", 1, 0}, {"0; > 0", 1, 1}, {"; > 0", 1, 1}, {"0; > 0 0 0", 1, 1}, {"0; > -1 1", 1, 0}, {"0; > -1 0 1 0 2", 1, 1}, {"0; > 0 1; > 0 1", 2, 4}, {"0; > 1 0 1 0; > 1 1", 2, 3}, {"0; >; > 0; > 0; > 0 1 2 3 4 5", 4, 6}, {"0; > -4611686018427387904 4611686018427387904 1; 0 > 0; {0}", 2, 2}, {"1; 0 1 2 > 2; > 2; ! 4 > 2", 3, 3},
	} {
		if nodes, edges := gba.Count(automaton(x.g)); nodes != x.nodes || edges != x.edges {
			t.Errorf("%s: %d nodes, %d edges", x.g, nodes, edges)
		}
	}
	r := rand.New(rand.NewSource(164))
	for range 2000 {
		g := randomGba(r)
		edges := 0
		for _, n := range g.Nodes {
			for to := range g.Nodes {
				if slices.Contains(n.Next, to) {
					edges++
				}
			}
		}
		if n, got := gba.Count(g); n != len(g.Nodes) || got != edges {
			t.Errorf("%s: %d nodes, %d edges", toldGba(g), n, got)
		}
	}
}

// TestP16_4TakesMemory: arguments stay as they are, also beyond the length of lists.
func TestP16_4TakesMemory(t *testing.T) {
	whole := [][]int{{0, 1, 2, 7}, {1, 1, 0, 8}, {-1, 2, 0, 9}}
	nodes := []gba.Node{{Must: whole[0][:0], Never: whole[1][1:1], Next: whole[0][:3]}, {Next: whole[1][:3]}, {Next: whole[2][:3]}, {Next: []int{5}}}
	sets := [][]int{whole[2][:3], whole[1][:2], {9}}
	g := gba.Gba{Nodes: nodes[:3], First: whole[0][1:3], Sets: sets[:2]}
	all := letters("10 01 11 00")
	w := word.Word{Stem: all[:1], Cycle: all[1:3]}
	text := func() string {
		return toldGba(gba.Gba{Nodes: nodes, First: g.First[:3], Sets: append(slices.Clone(sets), whole...)}) + toldWord(word.Word{Stem: all})
	}
	before := text()
	if !gba.Takes(g, w) {
		t.Error("not accepted")
	}
	if n, edges := gba.Count(g); n != 3 || edges != 7 {
		t.Errorf("%d nodes, %d edges", n, edges)
	}
	expect(t, "arguments", text(), before)
}
