package dfs_test

import (
	"fmt"
	"math"
	"math/rand"
	"slices"
	"testing"

	"plumbline/abstr"
	"plumbline/api"
	"plumbline/buchi"
	"plumbline/dfs"
	"plumbline/word"
)

func toldRight(right, known bool) string {
	switch {
	case known && right:
		return "valid"
	case known:
		return "not valid"
	case right:
		return "valid, but not known"
	}
	return "not known"
}

// several has acts with one step and with two, and states that are stuck.
const several = "3;0..3;x < 2;0 0>1 x < 2 / x := x + 2;0 1>0 / x := *;0 0>2 x = 1;0 1>1 x = 3"

func TestP22_1Right(t *testing.T) {
	const counter = "1;free;x = 0;0 0>0 / x := x + 1"
	const all, never, always = "0; *> 0", "0; *! 0 > 0", "0; > 0 1; *0 > 1"
	for _, x := range []struct{ system, props, preds, auto, lasso, want string }{
		// the document's example
		{counter, "x >= 2", "x >= 2", "0 1; > 0 1; *! 0 > 1", "| 0 /- >0", "valid"}, {counter, "x >= 2", "x >= 2", never, "| 0 /- >0", "valid"}, {counter, "x >= 2", "x >= 2", always, "| 0 /- >0", "not valid"}, {counter, "x >= 2", "x >= 2", always, "0 /- >0 | 0 /+ >0", "valid"}, {counter, "x >= 2", "x >= 2", always, "0 /- >0; 0 /- >0; 0 /+ >0 | 0 /+ >0; 0 /+ >0", "valid"},
		// no cycle, too few and too many acts
		{counter, "", "", all, "", "not valid"}, {counter, "", "", all, "0 / >0 |", "not valid"}, {counter, "", "", all, "| 0 / >", "not valid"}, {counter, "", "", all, "| 0 / >0 0", "not valid"}, {counter, "", "", all, "| 0 / >0", "valid"}, {counter, "", "", all, "0 / >0 | 0 / >0", "valid"}, {counter, "", "", all, "0 / > | 0 / >0", "not valid"}, {counter, "", "", all, "0 / >0 | 0 / >0 0", "not valid"}, {counter, "", "", all, "0 / >0 0 | 0 / >", "valid"},
		// a first state that is no first one
		{counter, "", "x >= 2", all, "| 0 /+ >0", "not valid"}, {counter, "", "x >= 2", all, "0 /+ >0 | 0 /+ >0", "not valid"}, {several, "", "", all, "1 / >3 | 1 / >3", "not valid"}, {several, "", "x > 0", all, "| 0 /- >0; 1 /+ >1", "valid"}, {several, "", "x > 0", all, "| 1 /+ >1; 0 /- >0", "not valid"}, {counter, "", "x >= 2", all, "| 0 / >0", "not valid"}, {counter, "", "", all, "| 0 /- >0", "not valid"}, {counter, "", "", all, "| / >0", "not valid"}, {"1;free;false;0 0>0", "", "", all, "| 0 / >0", "not valid"},
		// acts that belong to no step
		{several, "", "x > 0", all, "0 /- >0 | 1 /+ >3", "valid"}, {several, "", "x > 0", all, "0 /- >0 | 1 /+ >1", "not valid"}, {several, "", "x > 0", all, "0 /- >0 | 1 /+ >4", "not valid"}, {several, "", "x > 0", all, "0 /- >0 | 1 /+ >-2", "not valid"}, {several, "", "x > 0", all, "0 /- >0 | 1 /+ >-1", "not valid"}, {several, "", "x > 0", all, "0 /- >1 | 1 /+ >3", "not valid"}, {several, "", "x > 0", all, "0 /- >0 | 1 /- >3", "not valid"}, {several, "", "x > 0", all, "0 /- >0 | 2 /+ >-1", "not valid"}, {several, "", "x > 0", all, "0 /+ >0; 1 /+ >3; 1 /+ >3 | 1 /+ >1; 0 /- >0", "valid"}, {several, "", "x > 0", all, "0 /+ >0; 1 /+ >3; 1 /+ >3 | 1 /+ >1; 0 /- >2", "not valid"}, {several, "", "x > 0", all, "0 /+ >0; 1 /+ >3; 1 /+ >0 | 1 /+ >1; 0 /- >0", "not valid"}, {counter, "", "", all, "| 0 / >9223372036854775807", "not valid"}, {counter, "", "", all, "| 0 / >-9223372036854775808", "not valid"},
		// the act -1
		{several, "", "x > 0", all, "0 /+ >2 | 2 /+ >-1", "valid"}, {several, "", "x > 0", all, "0 /+ >2; 2 /+ >-1; 2 /+ >-1 | 2 /+ >-1", "valid"}, {several, "", "x > 0", all, "0 /+ >2 | 2 /+ >-1; 2 /- >-1", "not valid"}, {several, "", "x > 0", all, "0 /- >-1 | 0 /- >-1", "not valid"}, {several, "", "x > 0", all, "| 0 /+ >-1", "valid"}, {"1;;true", "", "", all, "| 0 / >-1", "valid"}, {"1;;true", "", "", all, "| 0 / >0", "not valid"}, {";;true", "", "", all, "| / >-1", "valid"},
		// words that the automaton does not accept
		{several, "0@1", "", "0; *! 0 > 0", "0 / >0 | 1 / >3", "not valid"}, {several, "0@1", "", "0; ! 0 > 1; *0 > 1", "0 / >0 | 1 / >3", "valid"}, {several, "0@1", "", "0; ! 0 > 1; 0 > 1", "0 / >0 | 1 / >3", "not valid"}, {several, "0@1", "", "", "0 / >0 | 1 / >3", "not valid"}, {several, "0@1", "", "; *> 0", "0 / >0 | 1 / >3", "not valid"}, {several, "0@1", "", "0; ! 0 > 1; *0 > 0", "0 / >0 | 1 / >3", "not valid"}, {several, "0@1", "", "0; ! 0 > 1; *0 > 0", "| 0 / >0; 1 / >1", "valid"},
		// Letters that are not defined
		{counter, "x >= 2", "", all, "| 0 / >0", "not valid"}, {counter, "x >= 2", "x >= 3", all, "| 0 /- >0", "not valid"}, {counter, "x >= 2", "x >= 3; x >= 2", all, "| 0 /-- >0", "valid"}, {counter, "x >= 2", "x >= 3; x >= 2", "0; *! 0 > 0", "| 0 /-- >0", "valid"},
		// the same predicate twice
		{counter, "x >= 2", "x >= 2; x >= 2", always, "0 /-- >0 | 0 /++ >0", "valid"}, {counter, "x >= 2", "x >= 2; x >= 2", always, "0 /-- >0 | 0 /-+ >0", "not valid"},
		// questions without an answer
		{counter, "far >= 0", "far >= 0", always, "0 /- >0 | 0 /+ >0", "valid"},
	} {
		got := toldRight(dfs.Right(system(x.system), props(x.props), preds(x.preds), automaton(x.auto), lassoOf(x.lasso), plenty))
		expect(t, x.lasso+" on "+x.system+", "+x.auto, got, x.want)
	}
}

// enough is the least fuel with which a call is answered.
func enough(answered func(fuel int) bool) int {
	fuel := 0
	for !answered(fuel) {
		fuel++
	}
	return fuel
}

// TestP22_1RightOrder: which check comes first. Each of those that ask questions has all
// of the given fuel.
func TestP22_1RightOrder(t *testing.T) {
	s, ps := system(several), preds("x > 0; x >= 2; x = 1")
	starts := enough(func(fuel int) bool {
		_, _, ok := abstr.Starts(s, ps, fuel)
		return ok
	})
	steps := func(from string) int {
		return enough(func(fuel int) bool {
			_, _, ok := abstr.Steps(s, ps, abstract(from), fuel)
			return ok
		})
	}
	first, second, none := steps("0 /---"), steps("1 /++-"), steps("1 /+++")
	if starts >= first || first >= second || none >= starts {
		t.Fatalf("%d, %d, %d, %d", starts, first, second, none)
	}
	const all, nothing = "0; *> 0", "0; > 0"
	for _, x := range []struct {
		lasso, auto, props string
		enough             int // all fuel from here on
		less, want         string
	}{
		{"", all, "", 0, "", "not valid"}, {"0 /--- >0 |", all, "", 0, "", "not valid"}, {"9 /+ > | 0 /--- >0 0 0", all, "z = 0", 0, "", "not valid"}, {"| 0 /--- >", nothing, "z = 0", 0, "", "not valid"},
		{"0 /--+ >0 | 1 /++- >3", nothing, "z = 0", starts, "not known", "not valid"}, {"1 /++- >3 | 1 /++- >9", all, "", starts, "not known", "not valid"},
		{"0 /--- >1 | 1 /++- >9", nothing, "z = 0", first, "not known", "not valid"}, {"0 /--- >0 | 1 /+++ >9", all, "", first, "not known", "not valid"}, {"0 /--- >0; 1 /++- >1 | 1 /+++ >9", nothing, "z = 0", second, "not known", "not valid"}, {"0 /--- >0 | 1 /++- >9", all, "", second, "not known", "not valid"}, {"0 /--- >0; 1 /++- >0 | 0 /--- >2", all, "", second, "not known", "not valid"}, {"0 /--- >2; 1 /++- >0 | 0 /--- >2", all, "", first, "not known", "not valid"}, {"| 0 /--- >0; 1 /++- >-1", all, "", second, "not known", "not valid"},
		{"0 /--- >0 | 1 /++- >3", nothing, "", second, "not known", "not valid"}, {"0 /--- >0 | 1 /++- >3", all, "z = 0", second, "not known", "not valid"}, {"0 /--- >0 | 1 /++- >3", all, "", second, "not known", "valid"}, {"| 0 /--- >0; 1 /++- >1", all, "x >= 2", second, "not known", "valid"}, {"| 0 /--- >0; 1 /++- >1; 0 /--- >0; 1 /++- >3; 1 /++- >1", all, "", second, "not known", "valid"},
	} {
		tell := func(fuel int) string {
			return toldRight(dfs.Right(s, props(x.props), ps, automaton(x.auto), lassoOf(x.lasso), fuel))
		}
		for _, more := range []int{0, 1, 2, 100, math.MaxInt - x.enough} {
			expect(t, fmt.Sprint(x.lasso, " with ", x.enough+more), tell(x.enough+more), x.want)
		}
		for _, fuel := range []int{x.enough - 1, x.enough / 2, 1, 0, -1, math.MinInt} {
			if fuel < 0 && x.enough == 0 {
				expect(t, fmt.Sprint(x.lasso, " with ", fuel), tell(fuel), x.want)
			} else if fuel < x.enough {
				expect(t, fmt.Sprint(x.lasso, " with ", fuel), tell(fuel), x.less)
			}
		}
	}
}

// rightByWords follows the document's words.
func rightByWords(g *abstracts, a buchi.Auto, l dfs.Lasso, fuel int) string {
	all := slices.Concat(l.Stem, l.Cycle)
	if len(l.Cycle) == 0 || len(all) != len(l.Acts) {
		return "not valid"
	}
	starts, _, ok := abstr.Starts(g.s, g.ps, fuel)
	if !ok {
		return "not known"
	}
	found := false
	for _, start := range starts {
		found = found || told(start) == told(all[0])
	}
	for i := 0; i < len(all) && found; i++ {
		steps, _, ok := abstr.Steps(g.s, g.ps, all[i], fuel)
		if !ok {
			return "not known"
		}
		next := l.Cycle[0]
		if i < len(all)-1 {
			next = all[i+1]
		}
		found = false
		for _, step := range steps {
			found = found || step.Act == l.Acts[i] && told(step.To) == told(next)
		}
	}
	var w word.Word
	for i, x := range all {
		letter, ok := abstr.Letter(g.props, g.ps, x)
		found = found && ok
		if i < len(l.Stem) {
			w.Stem = append(w.Stem, letter)
		} else {
			w.Cycle = append(w.Cycle, letter)
		}
	}
	if found && buchi.Takes(a, w) {
		return "valid"
	}
	return "not valid"
}

// spoilt is a lasso with a change, or without one.
func spoilt(r *rand.Rand, l dfs.Lasso) dfs.Lasso {
	l = dfs.Lasso{Stem: slices.Clone(l.Stem), Cycle: slices.Clone(l.Cycle), Acts: slices.Clone(l.Acts)}
	change := func(a *abstr.Abs) {
		a.Locs, a.Bits = slices.Clone(a.Locs), slices.Clone(a.Bits)
		if i := r.Intn(len(a.Locs) + len(a.Bits) + 1); i < len(a.Locs) {
			a.Locs[i] += r.Intn(3) - 1
		} else if i -= len(a.Locs); i < len(a.Bits) {
			a.Bits[i] = !a.Bits[i]
		} else {
			a.Bits = append(a.Bits, true)
		}
	}
	switch i := r.Intn(len(l.Acts)); r.Intn(6) {
	case 0:
		l.Acts[i] += r.Intn(5) - 2
	case 1:
		change(&l.Cycle[r.Intn(len(l.Cycle))])
	case 2:
		if len(l.Stem) > 0 {
			change(&l.Stem[r.Intn(len(l.Stem))])
		}
	case 3:
		l.Acts = l.Acts[:i]
	case 4:
		l.Stem, l.Cycle = slices.Concat(l.Stem, l.Cycle[:1]), append(slices.Clone(l.Cycle[1:]), l.Cycle[0])
	}
	return l
}

// TestP22_1RightByWords: lassos of abstract states, some of them spoilt, with much fuel
// and with little.
func TestP22_1RightByWords(t *testing.T) {
	r := rand.New(rand.NewSource(225))
	counts := map[string]int{}
	for i := range 500 {
		g := randomSearch(r, i%2 == 0)
		var all []dfs.Lasso
		g.lassos(3, func(l dfs.Lasso) { all = append(all, l) })
		for range min(len(all), 6) {
			a := randomAuto(r, 3)
			for range 2 {
				l := spoilt(r, one(r, all...))
				for _, fuel := range []int{plenty, r.Intn(60), r.Intn(200)} {
					got := toldRight(dfs.Right(g.s, g.props, g.ps, a, l, fuel))
					expect(t, fmt.Sprintf("%s with %d, %+v, on %+v", toldLasso(l), fuel, a, g.s), got, rightByWords(g, a, l, fuel))
					counts[got]++
				}
			}
		}
	}
	if counts["valid"] < 300 || counts["not valid"] < 1000 || counts["not known"] < 500 || len(counts) > 3 {
		t.Errorf("%v", counts)
	}
}

func TestP22_1Word(t *testing.T) {
	for _, x := range []struct{ props, preds, lasso, want string }{
		{"x >= 2; 0@1", "x >= 2", "0 /- >0; 1 /+ >1 | 0 /+ >0; 1 /- >2", "{[[false false] [true true]] [[true false] [false true]]} true"}, {"x >= 2", "x >= 2", "| 0 /- >0", "{[] [[false]]} true"}, {"x < 2", "x >= 2; x < 2", "| 0 /-+ >0", "{[] [[true]]} true"},
		{"", "x >= 2", "0 /- >0 | 0 /+ >0", "{[[]] [[]]} true"}, {"", "", "", "{[] []} true"}, {"x >= 2", "", "", "{[] []} true"}, {"x >= 2", "x >= 2", "0 /- >0 |", "{[[false]] []} true"}, {"0@0", "", "| 0 / >0 0", "{[] [[true]]} true"}, {"x >= 2; x >= 2", "x >= 2; x >= 2", "| 0 /+- >", "{[] [[true true]]} true"},
		// Letters that are not defined: for all states, or for one of them
		{"x >= 2", "", "| 0 / >0", "{[] []} false"}, {"x >= 2", "x >= 3", "0 /+ >0 | 0 /+ >0", "{[] []} false"}, {"0@0; x >= 2", "x >= 2", "0 / >0 | 0 /+ >0", "{[] []} false"}, {"0@0; x >= 2", "x >= 2", "0 /+ >0 | 0 /+ >0; 0 / >0", "{[] []} false"}, {"x >= 2", "x >= 3; x >= 2", "0 /++ >0; 0 /+ >0 | 0 /++ >0", "{[] []} false"}, {"x >= 2", "x >= 2", "0 / >0 |", "{[] []} false"},
	} {
		w, ok := dfs.Word(props(x.props), preds(x.preds), lassoOf(x.lasso))
		expect(t, x.lasso+" for "+x.props, fmt.Sprint(w, ok), x.want)
	}
}

// TestP22_4RightMemory: Right and Word leave their arguments as they are, also beyond the
// length of lists.
func TestP22_4RightMemory(t *testing.T) {
	l := lassoOf("0 /- >0; 1 /+ >3 | 1 /+ >3; 1 /+ >1; 0 /- >0")
	states := slices.Concat(l.Stem, l.Cycle)
	l.Stem, l.Cycle = states[:2:4], states[2:]
	before := toldAll(states)
	ps, props := preds("x > 0"), []api.Prop{{F: cond("x > 0")}}
	if got := toldRight(dfs.Right(system(several), props, ps, automaton("0; *> 0"), l, plenty)); got != "valid" {
		t.Error(got)
	}
	w, _ := dfs.Word(props, ps, l)
	expect(t, "the states", toldAll(states), before)
	states[0].Bits[0], states[0].Locs[0] = true, 9
	expect(t, "the word", fmt.Sprint(w), "{[[false] [true]] [[true] [true] [false]]}")
	w.Stem[0][0] = true
	_ = append(w.Stem[0], true)
	expect(t, "other letters", fmt.Sprint(w), "{[[true] [true]] [[true] [true] [false]]}")
}
