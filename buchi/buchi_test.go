package buchi_test

import (
	"math"
	"math/rand"
	"slices"
	"testing"

	"plumbline/api"
	"plumbline/buchi"
	"plumbline/gba"
	"plumbline/word"
)

// TestP17_1Takes: automata made by hand.
func TestP17_1Takes(t *testing.T) {
	const fair = "0 1; *0 > 0 1; > 0 1" // G F a
	for _, x := range []struct {
		a, w string
		want bool
	}{
		{fair, "/ 1", true}, {fair, "/ 0", false}, {fair, "/ 1 0", true}, {fair, "1 1 / 0", false}, {fair, "0 0 / 0 1", true}, {fair, "1 /", false}, {fair, "/", false}, {fair, "/ .", false}, {fair, "0 . / . 11", true},
		{"", "/ 1", false}, {"0", "/ 1", false}, {"0; > 0", "/ 1", false}, {"0; *> 0", "/ 1", true}, {"; *> 0", "/ 1", false}, {"0; *>", "/ 1", false}, {"0; *> 1; > 1", "/ 1", false}, {"0; > 1; *> 1", "/ 1", true}, {"0; > 1; *> 0", "/ 1 0", true}, {"0; 0 > 1; *> 0", "/ 1 0", true}, {"0; 0 > 1; *> 0", "/ 0 1", false}, {"0; 0 ! 0 > 1; *> 0", "/ 1 0", false}, {"0; *! -1 > 0", "/ 1", true}, {"0; *-1 > 0", "/ 1", false},
		// all nodes of a cycle must be allowed, and one of them good, again and again
		{"0; > 0 1; *> 2; > 2", "/ 1", false}, {"0; > 0 1; *> 2; > 2 1", "/ 1", true}, {"0; > 0 1; *1 > 2; > 2 1", "/ 1", false}, {"0; > 0 1; *1 > 2; > 2 1", "/ 1 01", true}, {"0; > 0 1; *1 > 2; > 2 1", "01 01 / 1", false},
		// nodes that do not exist, duplicates, and flags beyond the nodes
		{"-1 0 3 0; *> 9 0 0 -1", "/ 1", true}, {"1; *> 0", "/ 1", false}, {"0; *> 1", "/ 1", false}, {"0; > 0; +", "/ 1", false}, {"0; > 1; +; +", "/ 1", false}, {"0; *> 0; -; -", "/ 1", true}, {"0; *> 0; +", "/ 1", true}, {"4611686018427387904 0; *> -4611686018427387904 0", "/ 1", true},
	} {
		a, w := automaton(x.a), wordOf(x.w)
		if got := buchi.Takes(a, w); got != x.want {
			t.Errorf("%s on %s: %v", x.a, x.w, got)
		}
		if x.want && buchi.Empty(a) {
			t.Errorf("%s is empty", x.a)
		}
	}
	short := automaton("0; *> 1; *> 0; *> 2")
	for n := range 4 {
		a := short
		a.Good = a.Good[:n]
		if buchi.Takes(a, wordOf("/ 1")) != (n > 0) || buchi.Empty(a) != (n == 0) {
			t.Errorf("%d flags", n)
		}
	}
}

// TestP17_1TakesByRules: an automaton accepts like one of layer 16 whose only set
// consists of the good nodes.
func TestP17_1TakesByRules(t *testing.T) {
	r := rand.New(rand.NewSource(173))
	counts := map[bool]int{}
	for range 12000 {
		a, w := randomAuto(r), randomWord(r)
		good := []int{}
		for n := range a.Nodes {
			if n < len(a.Good) && a.Good[n] {
				good = append(good, n)
			}
		}
		want := gba.Takes(gba.Gba{Nodes: a.Nodes, First: a.First, Sets: [][]int{good}}, w)
		if buchi.Takes(a, w) != want || buchi.Takes(a, word.Word{Stem: w.Stem}) {
			t.Errorf("%s on %s is not %v", toldAuto(a), toldWord(w), want)
		}
		counts[want]++
	}
	if counts[true] < 500 || counts[false] < 500 {
		t.Errorf("%v", counts)
	}
}

// TestP17_3Empty: an empty automaton accepts no word, whatever its nodes allow; one that
// is not empty accepts a word if its nodes allow all letters.
func TestP17_3Empty(t *testing.T) {
	r := rand.New(rand.NewSource(174))
	counts := map[bool]int{}
	for range 12000 {
		a := randomAuto(r)
		empty := buchi.Empty(a)
		for range 3 {
			if w := randomWord(r); empty && buchi.Takes(a, w) {
				t.Errorf("%s on %s", toldAuto(a), toldWord(w))
			}
		}
		for i := range a.Nodes {
			a.Nodes[i].Must, a.Nodes[i].Never = nil, nil
		}
		if buchi.Empty(a) != empty || buchi.Takes(a, randomWord(r)) == empty {
			t.Errorf("%s: Empty is not %v", toldAuto(a), empty)
		}
		counts[empty]++
	}
	if counts[true] < 1500 || counts[false] < 1500 {
		t.Errorf("%v", counts)
	}
	for text, want := range map[string]bool{"": true, "0": true, "0; *> 0": false, "0; *>": true, "0; > 0": true, "0; > 1; *> 0": false, "0; > 1; *>": true, "; *> 0": true, "0; *0 ! 0 > 0": false, "0; > 0; +": true, "0; *> 1 -1": true} {
		if buchi.Empty(automaton(text)) != want {
			t.Errorf("%s: Empty is not %v", text, want)
		}
	}
}

// TestP17_2For: the words for which the property holds.
func TestP17_2For(t *testing.T) {
	r := rand.New(rand.NewSource(175))
	counts := map[bool]int{}
	for _, f := range slices.Concat(properties(3000, false), properties(3000, true)) {
		a, e := buchi.For(f)
		g, e2 := gba.Of(f)
		b, e3 := buchi.Of(g)
		if e2 == api.OK {
			e2 = e3
		}
		if e != e2 || e != api.OK && len(a.Nodes)+len(a.First)+len(a.Good) > 0 {
			t.Errorf("%s: error %d, not %d", told(f), e, e2)
		}
		if e != api.OK {
			continue
		}
		expect(t, told(f), toldAuto(a), toldAuto(buchi.Trim(b)))
		expect(t, told(f)+" trimmed", toldAuto(buchi.Trim(a)), toldAuto(a))
		for range 4 {
			w := randomWord(r)
			want := word.Holds(f, w, 0)
			if buchi.Takes(a, w) != want {
				t.Errorf("%s on %s is not %v", told(f), toldWord(w), want)
			}
			if want && buchi.Empty(a) {
				t.Errorf("%s is empty", told(f))
			}
			counts[want]++
		}
	}
	if counts[true] < 6000 || counts[false] < 6000 {
		t.Errorf("%v", counts)
	}
}

// TestP17_2ForOnce: properties one by one.
func TestP17_2ForOnce(t *testing.T) {
	for _, x := range []struct {
		f, w string
		want bool
	}{
		{"G F a", "/ 1 0", true}, {"G F a", "/ 0 1", true}, {"G F a", "/ 0", false}, {"& G F a G F b", "/ 10 01", true}, {"& G F a G F b", "/ 10", false}, {"& G F a G F b", "01 / 10", false}, {"& & G F a G F b G F c", "/ 100 001 010", true}, {"& & G F a G F b G F c", "/ 100 010", false}, {"U a b", "/ 10", false}, {"U a b", "10 / 01", true}, {"true", "/ .", true}, {"F G ! a", "1 1 / 0", true}, {"F G ! a", "1 1 / 0 1", false}, {"R a b", "/ 01", true}, {"X X a", "0 0 1 / 0", true}, {"X X a", "1 1 0 / 1", false},
	} {
		f, w := prop(x.f), wordOf(x.w)
		a, e := buchi.For(f)
		b, e2 := buchi.For(not(f))
		if e != api.OK || e2 != api.OK || buchi.Takes(a, w) != x.want || buchi.Takes(b, w) == x.want || word.Holds(f, w, 0) != x.want {
			t.Errorf("%s on %s is not %v", x.f, x.w, x.want)
		}
	}
	for _, text := range []string{"false", "& a ! a", "U a false", "G & a ! a", "X false", "& G a F ! a", "F & a X & ! a false"} {
		a, e := buchi.For(prop(text))
		if e != api.OK || !buchi.Empty(a) {
			t.Errorf("%s: error %d, %s", text, e, toldAuto(a))
		}
	}
	for text, want := range map[string]string{"& a ! a": "", "true": "0; *> 1; *> 1", "G F a": "0 1; *0 > 0 1; > 0 1", "U a b": "0 1; *1 > 2; 0 > 0 1; *> 2", "G a": "0; *0 > 0", "& X a X ! a": "", "| X a X false": "0; *> 1; *0 > 2; *> 2"} {
		a, _ := buchi.For(prop(text))
		expect(t, text, toldAuto(a), want)
	}
}

// TestP17_1ForErrors: the first error is that of layer 16's Of, or of Of.
func TestP17_1ForErrors(t *testing.T) {
	fair := prop("& & G F a G F b G F c")
	for i, x := range []struct {
		f       api.Ltl
		general api.Errno
		e       api.Errno
	}{
		{over(4094, api.TNext, prop("a")), api.OK, api.OK}, {over(4095, api.TNext, prop("a")), api.ErrMany, api.ErrMany}, {over(1<<16, api.TSome, prop("a")), api.ErrMany, api.ErrMany}, {over(4000, api.TNext, prop("U a b")), api.OK, api.OK},
		// n times X before this property of 16 nodes, and as pairs 32
		{over(4064, api.TNext, fair), api.OK, api.OK}, {over(4065, api.TNext, fair), api.OK, api.ErrMany}, {over(4080, api.TNext, fair), api.OK, api.ErrMany}, {over(4081, api.TNext, fair), api.ErrMany, api.ErrMany},
	} {
		g, e := gba.Of(x.f)
		a, e2 := buchi.For(x.f)
		if e != x.general || e2 != x.e || e2 != api.OK && len(a.Nodes)+len(a.First)+len(a.Good) > 0 {
			t.Errorf("case %d: errors %d and %d, %d and %d nodes, %d Sets", i, e, e2, len(g.Nodes), len(a.Nodes), len(g.Sets))
		}
	}
}

func TestP17_1Allows(t *testing.T) {
	for _, x := range []struct {
		node, letter string
		want         bool
	}{
		{">", ".", true}, {">", "1", true}, {"0 >", "1", true}, {"0 >", "0", false}, {"0 >", ".", false}, {"! 0 >", "1", false}, {"! 0 >", "0", true}, {"! 0 >", ".", true}, {"1 >", "1", false}, {"1 >", "01", true}, {"! 1 >", "1", true}, {"0 1 ! 2 >", "110", true}, {"0 1 ! 2 >", "11", true}, {"0 1 ! 2 >", "111", false}, {"0 1 ! 2 >", "100", false}, {"0 1 ! 2 >", "010", false}, {"1 0 1 ! 3 2 > 9 -1", "11", true}, {"1 0 1 ! 3 2 >", "1101", false}, {"0 ! 0 >", "1", false}, {"0 ! 0 >", "0", false}, {"-1 >", "1", false}, {"! -1 >", "1", true}, {"9223372036854775807 >", "1", false}, {"! -9223372036854775808 9223372036854775807 >", "1", true},
	} {
		if buchi.Allows(node(x.node), letters(x.letter)[0]) != x.want {
			t.Errorf("%s in %s is not %v", x.node, x.letter, x.want)
		}
	}
	if !buchi.Allows(gba.Node{}, nil) || buchi.Allows(gba.Node{Must: []int{math.MinInt}}, nil) {
		t.Error("no letter")
	}
}

// TestP17_4Memory: arguments stay as they are, also beyond the length of lists, and
// results share no memory with them, and no lists of a result with each other.
func TestP17_4Memory(t *testing.T) {
	whole := [][]int{{0, 1, 2, 7}, {1, 1, 0, 8}, {2, 2, 0, 9}}
	nodes := []gba.Node{{Must: whole[0][:0], Never: whole[1][1:1], Next: whole[0][:3]}, {Must: whole[1][:1], Never: whole[2][:1], Next: whole[1][:3]}, {Never: whole[2][1:2], Next: whole[2][:3]}, {Next: []int{5}}}
	sets := [][]int{whole[2][:3], whole[1][:2], {9}}
	flags := []bool{true, false, true, false}
	g := gba.Gba{Nodes: nodes[:3], First: whole[0][1:3], Sets: sets[:2]}
	a := buchi.Auto{Nodes: nodes[:3], First: whole[0][1:3], Good: flags[:2]}
	text := func() string {
		return toldGba(gba.Gba{Nodes: nodes, First: g.First[:3], Sets: append(slices.Clone(sets), whole...)}) + toldAuto(buchi.Auto{Nodes: nodes, Good: flags})
	}
	before := text()
	counted, _ := buchi.Of(g)
	results := []buchi.Auto{counted, buchi.Trim(a), buchi.Trim(counted)}
	buchi.Takes(a, wordOf("/ 1"))
	buchi.Empty(a)
	buchi.Allows(a.Nodes[1], []bool{true})
	expect(t, "arguments", text(), before)
	for _, b := range results {
		if len(b.Nodes) < 2 {
			t.Errorf("%s", toldAuto(b))
		}
		want := toldAuto(b)
		for _, list := range whole {
			for i := range list {
				list[i] = -list[i] - 1
			}
		}
		nodes[0], flags[0] = gba.Node{}, !flags[0]
		expect(t, "result", toldAuto(b), want)
		expectOwnMemory(t, b)
	}
}

// expectOwnMemory expects that no list shares memory with another, also beyond its
// length: each is overwritten up to its capacity, and still the others remain.
func expectOwnMemory(t *testing.T, a buchi.Auto) {
	t.Helper()
	lists := []*[]int{&a.First}
	for i := range a.Nodes {
		n := &a.Nodes[i]
		lists = append(lists, &n.Must, &n.Never, &n.Next)
	}
	for i, list := range lists {
		before := toldAuto(a)
		kept := *list
		all := kept[:cap(kept)]
		old := slices.Clone(all)
		for k := range all {
			all[k] = -1 - i
		}
		*list = old[:len(kept)]
		expect(t, "other lists", toldAuto(a), before)
		copy(all, old)
		*list = kept
	}
}
