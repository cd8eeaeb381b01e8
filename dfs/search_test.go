package dfs_test

import (
	"fmt"
	"math"
	"math/rand"
	"slices"
	"testing"

	"plumbline/abstr"
	"plumbline/api"
	"plumbline/buchi"
	"plumbline/confine"
	"plumbline/dfs"
	"plumbline/kripke"
	"plumbline/ltl"
	"plumbline/model"
	"plumbline/word"
	"plumbline/zint"
)

func TestP22_1Search(t *testing.T) {
	const (
		counter = "1;free;x = 0;0 0>0 / x := x + 1"
		ring    = "3;;true;0 0>1;0 1>2;0 2>0"
		falls   = "2;free;x = 0;0 0>1 / x := *"
	)
	for _, x := range []struct {
		system, props, preds, auto string
		state, visits              int
	}{
		// the document's example: F G !(x >= 2)
		{counter, "x >= 2", "x >= 2", "0 1; ! 0 > 0 1; *! 0 > 1", dfs.Found, -1}, {counter, "x >= 2", "x >= 2", "0; > 0 1; *! 0 > 1", dfs.Found, -1},
		// each visit and each step is 1
		{ring, "", "", "0; > 0", dfs.None, 6}, {ring, "", "", "0; *> 0", dfs.Found, -1}, {ring, "", "", "0; >", dfs.None, 1}, {ring, "", "", "0; *>", dfs.None, 2}, {counter, "", "x >= 2", "0; > 0", dfs.None, 2 + 3}, {counter, "", "", "0; > 0", dfs.None, 2}, {counter, "", "x >= 2; x >= 2", "0; > 0", dfs.None, 5}, {counter, "", "x >= 2; x >= 9", "0; > 0", dfs.None, 3 + 5}, {falls, "", "x >= 2", "0; > 0", dfs.None, 3 + 4}, {falls, "", "", "0; > 1; > 0 1; *> 0", dfs.None, 3 + 4},
		// second searches, which share what they have visited
		{falls, "0@1", "", "0; *! 0 > 0 1; > 1", dfs.None, 2 * (2 + 2)}, {"4;;true;0 0>1;0 1>2;0 2>3", "0@3", "", "0; *! 0 > 0 1; > 1", dfs.None, 2 * (3 + 3 + 2 + 2 + 2 + 2)}, {"4;;true;0 0>1;0 0>2;0 1>3;0 2>3", "0@3", "", "0; *! 0 > 0 1; > 1", dfs.None, 2 * (5 + 2 + 2 + 2 + 2 + 2)},
		// acts with several steps, and several acts of one
		{"1;free;x = 0;0 0>0 / x := *;0 0>0 / x := *", "", "x >= 0", "0; > 0", dfs.None, 2 + 8}, {"1;;true;0 0>0;0 0>0;0 0>0", "", "", "0; > 0", dfs.None, 1 + 3},
		// states that are stuck, and that may be
		{"1;;true", "", "", "0; > 0", dfs.None, 2}, {"1;;true", "", "", "0; *> 0", dfs.Found, -1}, {"1;0..3;x = 0;0 0>0 / x := x + 1", "", "x >= 3", "0; > 0", dfs.None, 2 + 3}, {"1;0..3;x = 0;0 0>0 / x := x + 1", "x >= 3", "x >= 3", "0; ! 0 > 0 1; *0 > 1", dfs.Found, -1}, {"1;0..3;x = 0;0 0>0 / x := x + 1", "", "", "0; > 0", dfs.None, 3},
		// no first ones: nodes, states
		{ring, "", "", "", dfs.None, 0}, {ring, "", "", "0", dfs.None, 0}, {ring, "", "", "; *> 0", dfs.None, 0}, {ring, "", "", "1 -1 5 9223372036854775807 -9223372036854775808; *> 0", dfs.None, 0}, {"1;free;false;0 0>0", "", "", "0; *> 0", dfs.None, 0}, {"1;1..0;true;0 0>0", "", "", "0; *> 0", dfs.None, 0}, {counter, "x > 0", "x > 0", "0; *0 > 0", dfs.None, 0},
		// nodes that do not exist, duplicates, Good shorter and longer than Nodes
		{ring, "", "", "-1 0 7 0 1; *> -1 3 0", dfs.Found, -1}, {ring, "", "", "0; > -1 1 9223372036854775807 -9223372036854775808", dfs.None, 1}, {ring, "", "", "0 0; > 0 0 0 0", dfs.None, 6}, {ring, "", "", "1; *> 0", dfs.None, 0}, {ring, "", "", "1; *> 0; > 1", dfs.None, 6}, {ring, "", "", "0; > 0; +; +", dfs.None, 6}, {ring, "", "", "0; *> 0; -; +", dfs.Found, -1}, {ring, "", "", "0 1; > 0 1; > 1", dfs.None, 2*3 + 3*3},
		// letters
		{ring, "0@0", "", "0; *0 > 0", dfs.None, 1 + 1}, {ring, "0@0", "", "0; *> 0 1 2; 1 > 0; *! 5 -1 > 0", dfs.Found, -1}, {ring, "0@0", "", "0; > 0 1 2; 1 > 0; -1 5 > 0", dfs.None, 6}, {ring, "0@2; 0@0", "", "0; *1 > 1; ! 0 > 2; 0 ! 1 > 0", dfs.Found, -1}, {ring, "0@2; 0@0", "", "0; *1 > 1; ! 0 > 2; 0 1 > 0", dfs.None, 2 * (2 + 1)}, {counter, "x >= 2", "x >= 2", "0; > 0 1; *! 0 > 2; > 1", dfs.Found, -1}, {counter, "x >= 2", "x >= 2", "0; ! 0 > 0 1; *0 > 1", dfs.Found, -1}, {counter, "x >= 2; x < 2", "x >= 2; x < 2", "0; > 0 1; *0 1 > 1", dfs.None, 2 + 3}, {counter, "x >= 2 & x < 2", "x >= 2; x < 2", "0; > 0 1; *0 > 1", dfs.None, 5},
		// Letters that are not defined, and those of more predicates
		{counter, "x >= 2", "", "0; *> 0", dfs.Fuel, 0}, {counter, "x >= 2", "x >= 3", "0; *> 0", dfs.Fuel, 0}, {counter, "x >= 2 | x = 7", "x >= 2; x < 7", "0; *! 0 > 0", dfs.Fuel, 0}, {counter, "x != 2", "x > 2; x < 2", "0; *0 > 0", dfs.Found, -1}, {counter, "x != 2", "x > 2", "0; *0 > 0", dfs.Fuel, 0}, {counter, "x >= 2", "", "", dfs.Fuel, 0}, {"1;free;false;0 0>0", "x >= 2", "", "0; *> 0", dfs.None, 0}, {counter, "0@0; x < x", "", "0; *0 > 0", dfs.Found, -1}, {counter, "0@0", "x >= 2; x = 0; x >= 2", "0; *0 > 0", dfs.Found, -1},
		// no processes, no variables, no acts
		{";;true", "", "", "0; *> 0", dfs.Found, -1}, {";;true", "0@0", "", "0; *0 > 0", dfs.None, 0}, {";free;x < 1", "x = 0", "x = 0", "0; > 0", dfs.None, 2 + 2}, {";free;x < 1", "x = 0", "x = 0", "0; *0 > 0", dfs.Found, -1}, {"2 3;;true", "1@0", "", "0; *0 > 0", dfs.Found, -1}, {"2;;true;0 0>1", "0@1", "", "0; ! 0 > 1; *0 > 1", dfs.Found, -1}, {"0;;true", "", "", "0; > 0", dfs.None, 2}, {"2;free free;true", "", "x < y; x = y", "0; > 0", dfs.None, 3 * 2},
		// questions without an answer
		{"1;free;true;0 0>0 / x := 1", "", "far >= 0", "0; > 0", dfs.None, 2 + 2*3}, {"1;free;true;0 0>0 / x := 1", "far >= 0", "far >= 0", "0; ! 0 > 1; *0 > 0", dfs.Found, -1},
	} {
		s, ps, rs, a := system(x.system), props(x.props), preds(x.preds), automaton(x.auto)
		w := words{abstractsOf(s, ps, rs), a}
		if state, _, visits := w.answer(); state != x.state || visits != x.visits {
			t.Errorf("%s on %s: state %d, %d for visits by words", x.auto, x.system, state, visits)
		}
		expectAnswer(t, w)
	}
}

// TestP22_1Example: the document's example, also with the lasso, which has one state.
func TestP22_1Example(t *testing.T) {
	s, props, ps, a := checked(t, "var x; init x = 0; proc p loc a; a -> a / x := x + 1; end", "F G !(x >= 2)", false)
	answer := expectAnswer(t, words{abstractsOf(s, props, ps), a})
	expect(t, "the lasso", toldLasso(answer.Lasso), " | 0 /- >0")
	run := api.Run{Cycle: []api.State{{Locs: []int{0}, Vals: []api.Int{number("0")}}}, Acts: []int{0}}
	if kripke.Right(s, run) {
		t.Error("a run with this word")
	}
}

// checked are the system of a model, and the atoms of a property, their predicates, and
// its automaton, or that of its negation.
func checked(t *testing.T, text, property string, deny bool) (api.Sys, []api.Prop, []api.Rel, buchi.Auto) {
	t.Helper()
	m, at, e := model.Parse(text)
	s, ok := model.System(m)
	if e != api.OK || !ok {
		t.Fatalf("%s: error %d at %v", text, e, at)
	}
	tree, at, e := ltl.Parse(property, s)
	f, props, ok := ltl.Resolve(tree, s)
	if e != api.OK || !ok {
		t.Fatalf("%s: error %d at %v", property, e, at)
	}
	a, e := buchi.For(word.Plain(f, deny))
	ps, e2 := abstr.Base(props)
	if e != api.OK || e2 != api.OK {
		t.Fatalf("%s: errors %d, %d", property, e, e2)
	}
	return s, props, ps, a
}

// TestP22_1SearchLimits: fuel at its limits.
func TestP22_1SearchLimits(t *testing.T) {
	s, a, good := system("3;;true;0 0>1;0 1>2;0 2>0"), automaton("0; > 0"), automaton("0; *> 0")
	g := abstractsOf(s, nil, nil)
	_, questions, visits := words{g, a}.answer()
	all := questions + visits
	vague := props("x >= 2")
	if all != 3+3*(3+1)+6 || visits != 6 { // 3 units for a question about a step, and 1 about stuck states
		t.Errorf("%d + %d", questions, visits)
	}
	for _, x := range []struct {
		props             []api.Prop
		a                 buchi.Auto
		fuel, state, left int
	}{
		{nil, a, 0, dfs.Fuel, 0}, {nil, a, -1, dfs.Fuel, 0}, {nil, a, math.MinInt, dfs.Fuel, 0}, {nil, a, 1, dfs.Fuel, 0}, {nil, a, all - 1, dfs.Fuel, 0}, {nil, a, all, dfs.None, 0}, {nil, a, all + 1, dfs.None, 1}, {nil, a, api.MaxFuel, dfs.None, api.MaxFuel - all}, {nil, a, api.MaxFuel - 1, dfs.None, api.MaxFuel - 1 - all}, {nil, a, api.MaxFuel + 1, dfs.None, api.MaxFuel - all}, {nil, a, math.MaxInt, dfs.None, api.MaxFuel - all},
		{nil, good, 0, dfs.Fuel, 0}, {nil, good, -9, dfs.Fuel, 0}, {nil, good, math.MaxInt, dfs.Found, -1},
		{nil, buchi.Auto{}, g.asked, dfs.None, 0}, {nil, buchi.Auto{}, g.asked - 1, dfs.Fuel, 0}, {nil, buchi.Auto{}, math.MaxInt, dfs.None, api.MaxFuel - g.asked},
		{vague, a, g.asked, dfs.Fuel, 0}, {vague, a, g.asked + 7, dfs.Fuel, 7}, {vague, a, g.asked - 1, dfs.Fuel, 0}, {vague, a, -1, dfs.Fuel, 0}, {vague, a, math.MaxInt, dfs.Fuel, api.MaxFuel - g.asked}, {vague, good, 2 * all, dfs.Fuel, 2*all - g.asked},
	} {
		b := dfs.Search(s, x.props, nil, x.a, x.fuel)
		if b.State != x.state || b.Left != x.left && x.left >= 0 || (len(b.Lasso.Cycle) > 0) != (b.State == dfs.Found) {
			t.Errorf("fuel %d: %s, not %d, %d", x.fuel, toldAnswer(b), x.state, x.left)
		}
	}
	if dfs.Found != 1 || dfs.None != 2 || dfs.Fuel != 3 {
		t.Error("the states of an answer")
	}
}

// randomProps are atoms about which predicates of a list tell, or any atoms.
func randomProps(r *rand.Rand, vars int, ps []api.Rel) []api.Prop {
	var all []api.Prop
	for range r.Intn(4) {
		p := api.Prop{At: r.Intn(3) == 0, Proc: r.Intn(3) - r.Intn(2), Loc: r.Intn(3), F: randomForm(r, vars, r.Intn(2))}
		if len(ps) > 0 && r.Intn(8) > 0 {
			p.F = api.Form{Kind: api.Atom, R: one(r, ps...)}
		}
		all = append(all, p)
	}
	return all
}

// randomSearch is a system, atoms and predicates, which are often sufficient.
func randomSearch(r *rand.Rand, confined bool) *abstracts {
	s := randomSystem(r, confined)
	if r.Intn(3) > 0 {
		s.Init = api.Form{}
	}
	ps := randomPreds(r, len(s.Vars), 2)
	props := randomProps(r, len(s.Vars), ps)
	if base, e := abstr.Base(props); e == api.OK && r.Intn(4) > 0 && len(base) < 4 {
		ps = base
		if r.Intn(3) == 0 {
			ps = append(ps, randomRel(r, len(s.Vars)))
		}
	}
	return abstractsOf(s, props, ps)
}

// TestP22_2AllLassos: answers for small systems and automata, and the fuel consumed where
// there is no lasso, by the document's words; also against all lassos of a few states.
func TestP22_2AllLassos(t *testing.T) {
	r := rand.New(rand.NewSource(221))
	counts, takes := map[int]int{}, 0
	for i := range 700 {
		g := randomSearch(r, i%2 == 0)
		for range 4 {
			a := randomAuto(r, 4)
			answer := expectAnswer(t, words{g, a})
			counts[answer.State]++
			if answer.State == dfs.None && i < 200 {
				g.lassos(3, func(l dfs.Lasso) {
					if w, ok := dfs.Word(g.props, g.ps, l); !ok || buchi.Takes(a, w) {
						t.Fatalf("%v for %+v: None, but %s", a, g.s, toldLasso(l))
					}
				})
			}
			if answer.State == dfs.Found && len(answer.Lasso.Acts) < 4 {
				g.lassos(3, func(l dfs.Lasso) {
					if toldLasso(l) == toldLasso(answer.Lasso) {
						takes++
					}
				})
			}
		}
	}
	if counts[dfs.Found] < 300 || counts[dfs.None] < 300 || counts[dfs.Fuel] < 60 || takes < 300 {
		t.Errorf("%v, %d among all lassos of a few states", counts, takes)
	}
}

// TestP22_2NoRun: if there is no lasso, there is no run whose word is accepted.
func TestP22_2NoRun(t *testing.T) {
	r := rand.New(rand.NewSource(222))
	counts := map[string]int{}
	for range 600 {
		s := randomSystem(r, true)
		if r.Intn(3) == 0 { // whose abstract lassos often have no run
			s = system(one(r, "1;0..5;true;0 0>0 / x := x + 1", "2;-3..5;true;0 0>1 x < 4 / x := x + 1;0 1>0 / x := x - 2;0 0>0 x > 0 / x := 4", "1;0..3 0..3;true;0 0>0 x < y / x := y, y := x + 1;0 0>0 x > y / y := x"))
		}
		if r.Intn(3) > 0 {
			s.Init = api.Form{}
		}
		props := randomProps(r, len(s.Vars), randomPreds(r, len(s.Vars), 2))
		ps, e := abstr.Base(props)
		if e != api.OK || len(ps) > 4 {
			continue
		}
		for range 6 {
			a := randomAuto(r, 4)
			abstract := dfs.Search(s, props, ps, a, plenty)
			real := confine.Search(s, props, a, plenty)
			if real.State == confine.Found && abstract.State != dfs.Found {
				t.Fatalf("%+v on %+v: a run, but no lasso", a, s)
			}
			counts[fmt.Sprint(real.State, abstract.State)]++
		}
	}
	if counts["1 1"] < 200 || counts["2 2"] < 200 || counts["2 1"] == 0 {
		t.Errorf("%v", counts)
	}
}

// nearby are all states that fit, with values from -far to far.
func nearby(s api.Sys, far int) []api.State {
	all := []api.State{{}}
	for _, p := range s.Procs {
		var longer []api.State
		for _, x := range all {
			for loc := range p.Locs {
				longer = append(longer, api.State{Locs: append(slices.Clone(x.Locs), loc)})
			}
		}
		all = longer
	}
	for range s.Vars {
		var longer []api.State
		for _, x := range all {
			for val := -far; val <= far; val++ {
				longer = append(longer, api.State{Locs: x.Locs, Vals: append(slices.Clone(x.Vals), zint.Of(int64(val)))})
			}
		}
		all = longer
	}
	return slices.DeleteFunc(all, func(x api.State) bool { return !kripke.Fits(s, x) })
}

// hasRun reports whether there is a run through some states whose word is accepted.
func hasRun(s api.Sys, props []api.Prop, a buchi.Auto, states []api.State) bool {
	g := &abstracts{s: s, props: props, steps: map[string][]abstr.Step{}, letters: map[string][]bool{}}
	whole := func(x api.State) abstr.Abs { // a state as an abstract one, of itself only
		b := abstr.Abs{Locs: slices.Clone(x.Locs)}
		for _, val := range x.Vals {
			n, _ := zint.Small(val)
			b.Locs = append(b.Locs, int(n))
		}
		return b
	}
	for _, x := range states {
		name := told(whole(x))
		g.letters[name] = kripke.Letter(props, x)
		if kripke.First(s, x) {
			g.starts = append(g.starts, whole(x))
		}
		for act := -1; act < len(s.Acts); act++ {
			if _, ok := kripke.Go(s, x, act, nil); !ok && !kripke.Can(s, x, act) {
				continue
			}
			for _, y := range states {
				if kripke.Leads(s, x, act, y) {
					g.steps[name] = append(g.steps[name], abstr.Step{Act: act, To: whole(y)})
				}
			}
		}
	}
	state, _, _ := words{g, a}.answer()
	return state == dfs.Found
}

// TestP22_2NoRunFree: also in systems without bounds, there is no run through a few states
// whose word is accepted, if there is no lasso.
func TestP22_2NoRunFree(t *testing.T) {
	r := rand.New(rand.NewSource(226))
	counts := map[string]int{}
	for range 200 {
		s := randomSystem(r, false)
		if r.Intn(3) == 0 { // whose abstract lassos often have no run
			s = system(one(r, "1;free;true;0 0>0 / x := x + 1", "2;free;true;0 0>1 x < 3 / x := x + 1;0 1>0 / x := x - 2;0 0>0 x > 0 / x := *", "1;free free;true;0 0>0 x < y / x := y, y := x + 1;0 0>0 x > y / y := x"))
		}
		s.Init = api.Form{}
		props := randomProps(r, len(s.Vars), randomPreds(r, len(s.Vars), 2))
		ps, e := abstr.Base(props)
		if e != api.OK || len(ps) > 3 {
			continue
		}
		states := nearby(s, 2)
		for range 4 {
			a := randomAuto(r, 3)
			state := dfs.Search(s, props, ps, a, plenty).State
			is := hasRun(s, props, a, states)
			if is && state != dfs.Found {
				t.Fatalf("%+v on %+v: a run, but state %d", a, s, state)
			}
			counts[fmt.Sprint(is, state)]++
		}
	}
	if counts["true 1"] < 50 || counts["false 2"] < 200 || counts["false 1"] < 3 {
		t.Errorf("%v", counts)
	}
}

// TestP22_2Properties: systems from a text, with automata of properties.
func TestP22_2Properties(t *testing.T) {
	const (
		grow  = "var x; init x >= 3; proc p loc a, b; a -> b : x > 0 / x := x + 1; b -> a / x := 2*x; end"
		mutex = "var turn in 0 .. 1; init turn = 0; proc p loc idle, crit; idle -> crit : turn = 0; crit -> idle / turn := 1; end proc q loc idle, crit; idle -> crit : turn = 1; crit -> idle / turn := 0; end"
		input = "var x; init true; proc p loc a, b; a -> b / x := *; b -> a : x > 7; end"
	)
	for _, x := range []struct {
		model, property string
		deny            bool
		state           int
	}{
		{grow, "G x > 0", true, dfs.None}, {grow, "G x > 0", false, dfs.Found}, {grow, "F x < 0", false, dfs.None}, {grow, "G (@p.a -> X @p.b)", true, dfs.Found}, {grow, "G (@p.a -> X @p.b) | x <= 0", true, dfs.None}, {grow, "G F @p.b", true, dfs.Found}, {grow, "G F @p.b | F x <= 0", true, dfs.None}, {grow, "F x > 9", true, dfs.Found}, {grow, "G (x > 9 -> X x > 9)", true, dfs.None},
		{mutex, "G !(@p.crit & @q.crit)", true, dfs.Found}, {mutex, "G !(@p.crit & @q.crit & turn = turn)", true, dfs.Found}, {mutex, "G (!(@p.crit & @q.crit) | turn = 5)", true, dfs.Found}, {mutex, "G ((@p.crit -> turn = 0) & (@q.crit -> turn = 1) & (turn = 0 | turn = 1))", true, dfs.None}, {mutex, "turn = 0 -> G !(@p.crit & @q.crit)", true, dfs.None}, {mutex, "G !(turn = 1 & @p.crit)", true, dfs.None},
		{input, "G (@p.a & x > 7 -> X (@p.b & x > 7))", true, dfs.Found}, {input, "G (@p.b & X @p.a -> x > 7)", true, dfs.None}, {input, "G F @p.a", true, dfs.Found}, {input, "G (@p.b & x <= 7 -> G @p.b)", true, dfs.None}, {input, "F G (@p.b & x > 7)", false, dfs.None}, {input, "F G (@p.b & x <= 7)", false, dfs.Found},
	} {
		s, props, ps, a := checked(t, x.model, x.property, x.deny)
		if answer := expectAnswer(t, words{abstractsOf(s, props, ps), a}); answer.State != x.state {
			t.Errorf("%s, denied: %v, on %s: %s", x.property, x.deny, x.model, toldAnswer(answer))
		}
	}
}

// TestP22_1Long: a search through many pairs, for lassos with a long stem and cycle.
func TestP22_1Long(t *testing.T) {
	const n = 3000
	s := api.Sys{Procs: []api.Proc{{Locs: make([]string, n)}}}
	for loc := range n {
		s.Acts = append(s.Acts, api.Act{From: loc, To: (loc + 1) % n})
	}
	s.Acts[n-1].To = n / 3
	props := props(fmt.Sprintf("0@%d; 0@%d", n-1, n/3))
	for _, x := range []struct {
		auto        string
		stem, cycle int
	}{
		{"0; > 0 1; *0 > 0", n / 3, n - n/3}, {"0; > 0; *> 1", 0, 0}, {"0; > 0 1; 1 > 2; *> 3; > 2", n / 3, n - n/3}, {"0; > 0 1; 0 1 > 1", 0, 0},
	} {
		a := automaton(x.auto)
		answer := dfs.Search(s, props, nil, a, plenty)
		l := answer.Lasso
		if len(l.Stem) != x.stem || len(l.Cycle) != x.cycle {
			t.Errorf("%s: %d and %d states", x.auto, len(l.Stem), len(l.Cycle))
		}
		if right, known := dfs.Right(s, props, nil, a, l, plenty); x.cycle > 0 && (!right || !known) {
			t.Errorf("%s: the lasso is not valid", x.auto)
		}
	}
}

// TestP22_1Shortest: a lasso has no more states than needed for its sequence of abstract
// states and acts.
func TestP22_1Shortest(t *testing.T) {
	const two = "2;;true;0 0>1;0 1>0"
	for _, x := range []struct{ system, props, auto, want string }{
		// the first part of the cycle is also its end
		{"1;free;true;0 0>0 / x := *", "x >= 0", "0; *0 > 1; ! 0 > 2; 0 > 0", " | 0 /+ >0; 0 /- >0; 0 /+ >0"}, {"1;free;true;0 0>0 / x := *", "x >= 0", "0; *0 > 1; ! 0 > 2; 0 > 3; 0 > 4; ! 0 > 5; 0 > 0", " | 0 /+ >0; 0 /- >0; 0 /+ >0"}, {"1;free;true;0 0>0 / x := *", "x >= 0", "0; *0 > 1; ! 0 > 2; 0 > 3; ! 0 > 4; 0 > 0", " | 0 /+ >0; 0 /- >0; 0 /+ >0; 0 /- >0; 0 /+ >0"},
		{"1;;true;0 0>0", "", "0; > 1; > 2; *> 3; > 2", " | 0 / >0"}, {two, "", "0; > 1; > 2; *> 3; > 2", " | 0 / >0; 1 / >1"}, {two, "", "0; > 1; > 2; > 3; *> 4; > 5; > 3", " | 0 / >0; 1 / >1"}, {two, "", "0; > 1; *> 2; > 1", " | 0 / >0; 1 / >1"}, {"2;;true;0 0>1;0 1>1", "", "0; > 1; > 2; *> 3; > 2", "0 / >0 | 1 / >1"}, {"3;;true;0 0>1;0 1>2;0 2>1", "", "0; > 1; > 2; > 3; > 4; *> 5; > 6; > 7; > 4", "0 / >0 | 1 / >1; 2 / >2"}, {"1;;true;0 0>0", "", "0; > 1; > 2; > 3; *> 4; > 5; > 6; > 3", " | 0 / >0"},
		// states that are equal, with different acts
		{"2;;true;0 0>1;0 0>1;0 1>0", "0@1", "0; ! 0 > 1; *0 > 0", " | 0 / >0; 1 / >2"},
	} {
		ps, _ := abstr.Base(props(x.props))
		answer := dfs.Search(system(x.system), props(x.props), ps, automaton(x.auto), plenty)
		expect(t, x.auto+" on "+x.system, toldLasso(answer.Lasso), x.want)
	}
	r := rand.New(rand.NewSource(223))
	found := 0
	for range 300 {
		g := randomSearch(r, true)
		l := dfs.Search(g.s, g.props, g.ps, randomAuto(r, 5), plenty).Lasso
		n, all := len(l.Stem), slices.Concat(l.Stem, l.Cycle)
		if len(l.Cycle) == 0 {
			continue
		}
		found++
		alike := func(i, j int) bool { return l.Acts[i] == l.Acts[j] && abstr.Same(all[i], all[j]) }
		if n > 0 && alike(n-1, len(all)-1) {
			t.Errorf("%s: the stem can be shorter", toldLasso(l))
		}
		for d := 1; d < len(l.Cycle); d++ {
			repeats := len(l.Cycle)%d == 0
			for i := n; i+d < len(all); i++ {
				repeats = repeats && alike(i, i+d)
			}
			if repeats {
				t.Errorf("%s: the cycle can be shorter", toldLasso(l))
			}
		}
	}
	if found < 50 {
		t.Errorf("only %d lassos", found)
	}
}

// TestP22_3MoreFuel: all amounts of fuel up to more than enough.
func TestP22_3MoreFuel(t *testing.T) {
	r := rand.New(rand.NewSource(224))
	counts := map[int]int{}
	for i := range 300 {
		g := randomSearch(r, i%2 == 0)
		a := randomAuto(r, 4)
		whole := dfs.Search(g.s, g.props, g.ps, a, plenty)
		used := plenty - whole.Left
		known := false
		for fuel := 0; fuel < used+60 && fuel < 900; fuel += 1 + i%3 {
			got := dfs.Search(g.s, g.props, g.ps, a, fuel)
			counts[got.State]++
			text := toldAnswer(got)
			if text == nothing && !known {
				continue
			}
			want := dfs.Answer{State: whole.State, Lasso: whole.Lasso, Left: fuel - used}
			expect(t, fmt.Sprint("fuel ", fuel, " of ", used), text, toldAnswer(want))
			known = known || got.State != dfs.Fuel
		}
	}
	if counts[dfs.Found] < 200 || counts[dfs.None] < 200 || counts[dfs.Fuel] < 1000 {
		t.Errorf("%v", counts)
	}
}

// TestP22_4Memory: a result has memory of its own, and each of its lists.
func TestP22_4Memory(t *testing.T) {
	s := system("2 2;0..5 free;x = 0;0 0>1 x < 5 / x := x + 1;0 1>0 / y := *;1 0>1 / y := x")
	props, ps := props("x >= 5; 1@1; y = x"), preds("x >= 5; y >= x; x >= y; x >= 2")
	a := automaton("0; > 0 1; *1 ! 0 > 2; > 1 2")
	base, e := abstr.Base(props)
	if e != api.OK {
		t.Fatal(e)
	}
	ps = append(ps, base...)
	text := func() string { return fmt.Sprintf("%+v %+v %+v %+v", s, props, ps, a) }
	before := text()
	l := dfs.Search(s, props, ps, a, plenty).Lasso
	w, ok := dfs.Word(props, ps, l)
	right, known := dfs.Right(s, props, ps, a, l, plenty)
	if expect(t, "arguments", text(), before); !ok || !right || !known || len(l.Acts) < 4 {
		t.Fatalf("%s is valid: %v, %v", toldLasso(l), right, known)
	}
	letters := fmt.Sprint(w)
	for _, states := range [][]abstr.Abs{l.Stem, l.Cycle} {
		for i := range states {
			own := func() string {
				x := dfs.Lasso{Stem: slices.Clone(l.Stem), Cycle: slices.Clone(l.Cycle)}
				if &states[i] == &l.Cycle[min(i, len(l.Cycle)-1)] {
					x.Cycle[i] = abstr.Abs{}
				} else {
					x.Stem[i] = abstr.Abs{}
				}
				return toldLasso(x)
			}
			before := own()
			a := &states[i]
			a.Locs, a.Bits = a.Locs[:cap(a.Locs)], a.Bits[:cap(a.Bits)]
			for j := range a.Locs {
				a.Locs[j] = 7
			}
			for j := range a.Bits {
				a.Bits[j] = !a.Bits[j]
			}
			expect(t, "other states", own(), before)
		}
	}
	expect(t, "the word", fmt.Sprint(w), letters)
	expect(t, "arguments", text(), before)
}
