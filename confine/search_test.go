package confine_test

import (
	"fmt"
	"math"
	"math/rand"
	"slices"
	"testing"

	"plumbline/api"
	"plumbline/buchi"
	"plumbline/confine"
	"plumbline/gba"
	"plumbline/kripke"
	"plumbline/ltl"
	"plumbline/model"
	"plumbline/word"
)

// plenty is more fuel than any search of these tests needs.
const plenty = 1 << 28

// expectAnswer expects all that the document says of an answer, with fuel that is just
// enough, less and more; and, if used is not negative, how much is consumed. It returns
// the answer.
func expectAnswer(t *testing.T, s api.Sys, ps []api.Prop, a buchi.Auto, want, used int) confine.Answer {
	t.Helper()
	answer := confine.Search(s, ps, a, plenty)
	told := fmt.Sprintf("%+v, %+v", a, s)
	if answer.State != want {
		t.Fatalf("state %d, not %d: %s", answer.State, want, told)
	}
	consumed := plenty - answer.Left
	if used >= 0 && consumed != used {
		t.Fatalf("consumes %d, not %d: %s", consumed, used, told)
	}
	r := answer.Run
	if want == confine.Found && (!kripke.Right(s, r) || !buchi.Takes(a, kripke.Spell(ps, r))) {
		t.Fatalf("%s is valid: %v, its word is accepted: %v: %s", toldRun(r), kripke.Right(s, r), buchi.Takes(a, kripke.Spell(ps, r)), told)
	}
	if want == confine.None && len(r.Stem)+len(r.Cycle)+len(r.Acts) > 0 {
		t.Fatalf("a run beside None: %s", told)
	}
	for _, more := range []int{0, 1, 1000} {
		b := confine.Search(s, ps, a, consumed+more)
		if b.State != want || b.Left != more || toldRun(b.Run) != toldRun(r) {
			t.Fatalf("%d, %d left, %s with %d more than enough: %s", b.State, b.Left, toldRun(b.Run), more, told)
		}
	}
	for _, less := range []int{1, 2, 3, consumed / 2, consumed} {
		b := confine.Search(s, ps, a, max(consumed-less, 0))
		if less > 0 && consumed > 0 && (b.State != confine.Fuel || b.Left != 0 || len(b.Run.Cycle)+len(b.Run.Stem)+len(b.Run.Acts) > 0) {
			t.Fatalf("%d, %d left, %s with %d less than enough: %s", b.State, b.Left, toldRun(b.Run), less, told)
		}
	}
	return answer
}

// words tells what the document says of the pairs of a system and an automaton.
type words struct {
	s     api.Sys
	all   []api.State
	steps [][]int // from each state to others, by their numbers
	ps    []api.Prop
	a     buchi.Auto
	edges map[int][]int // pairs are numbered: the state, times the number of nodes, plus the node
}

func wordsOf(s api.Sys, steps func(x api.State, all []api.State) []confine.Edge) *words {
	w := &words{s: s, all: fitting(s)}
	number := map[string]int{}
	for n, x := range w.all {
		number[told(x)] = n
	}
	for _, x := range w.all {
		var list []int
		for _, step := range steps(x, w.all) {
			list = append(list, number[told(step.To)])
		}
		w.steps = append(w.steps, list)
	}
	return w
}

// byLeads are words with all steps for which Leads is true.
func byLeads(s api.Sys) *words {
	return wordsOf(s, func(x api.State, all []api.State) []confine.Edge { return stepsByWords(s, x, all) })
}

// byEdges are words with the steps that Edges returns, which other tests compare with
// those of Leads.
func byEdges(s api.Sys) *words {
	return wordsOf(s, func(x api.State, _ []api.State) []confine.Edge { return confine.Edges(s, x) })
}

// with adds the edges of an automaton.
func (w *words) with(ps []api.Prop, a buchi.Auto) *words {
	w.ps, w.a, w.edges = ps, a, map[int][]int{}
	for next := range a.Nodes {
		var allowed []bool
		for n := range w.all {
			allowed = append(allowed, w.allowed(n, next))
		}
		for node := range a.Nodes {
			if !slices.Contains(a.Nodes[node].Next, next) {
				continue
			}
			for n := range w.all {
				for _, to := range w.steps[n] {
					if from := n*len(a.Nodes) + node; allowed[to] {
						w.edges[from] = append(w.edges[from], to*len(a.Nodes)+next)
					}
				}
			}
		}
	}
	return w
}

func (w *words) allowed(state, node int) bool {
	return buchi.Allows(w.a.Nodes[node], kripke.Letter(w.ps, w.all[state]))
}

// reached are all pairs that can be reached from some, and these.
func (w *words) reached(from []int) map[int]bool {
	is := map[int]bool{}
	for _, p := range from {
		is[p] = true
	}
	list := slices.Clone(from)
	for i := 0; i < len(list); i++ {
		for _, to := range w.edges[list[i]] {
			if !is[to] {
				is[to] = true
				list = append(list, to)
			}
		}
	}
	return is
}

// cost is the fuel for pairs that are visited, and their edges.
func (w *words) cost(pairs map[int]bool) int {
	sum := 0
	for p := range pairs {
		sum += 1 + len(w.edges[p])
	}
	return sum
}

// answer is the state, and how much fuel is consumed if there is no run: for all pairs
// that can be reached, and for all that can be reached from good ones.
func (w *words) answer() (state, used int) {
	var first []int
	for n, x := range w.all {
		for node := range w.a.Nodes {
			if kripke.First(w.s, x) && slices.Contains(w.a.First, node) && w.allowed(n, node) {
				first = append(first, n*len(w.a.Nodes)+node)
			}
		}
	}
	reached := w.reached(first)
	var good []int
	for p := range reached {
		node := p % len(w.a.Nodes)
		if node >= len(w.a.Good) || !w.a.Good[node] {
			continue
		}
		good = append(good, p)
		if w.reached(w.edges[p])[p] {
			return confine.Found, -1
		}
	}
	return confine.None, w.cost(reached) + w.cost(w.reached(good))
}

// TestP19_3Search: automata made by hand, and how much fuel is consumed.
func TestP19_3Search(t *testing.T) {
	const (
		count = "1;0..3;x = 0;0 0>0 / x := x + 1" // 0, 1, 2, 3, and then stuck
		ring  = "3;;true;0 0>1;0 1>2;0 2>0"
		fork  = "1;0..3;x = 0;0 0>0 x = 0 / x := *"
		atoms = "x = 3; x > 0; 0@1"
	)
	for _, x := range []struct {
		system, auto string
		state, used  int
	}{
		// one node: each pair and each edge is 1
		{count, "0; > 0", confine.None, 8}, {count, "0; *> 0", confine.Found, -1}, {ring, "0; > 0", confine.None, 6}, {ring, "0; *> 0", confine.Found, -1}, {fork, "0; > 0", confine.None, 11}, {count, "0; >", confine.None, 1}, {count, "0; *>", confine.None, 2},
		// runs that stay stuck
		{count, "0; > 0 1; *0 > 1", confine.Found, -1}, {count, "0; > 0 1; *! 0 > 1", confine.None, 13 + 3}, {count, "0; ! 1 > 1; 1 ! 0 > 1 2; *0 > 2", confine.Found, -1}, {"1;;true", "0; *> 0", confine.Found, -1}, {"1;;true", "0; > 1; *> 0", confine.Found, -1}, {";;true", "0; *> 0", confine.Found, -1}, {"2;;true;0 0>1", "0; > 0 1; *2 > 1", confine.Found, -1}, {"2;;true;0 0>1", "0; *! 2 > 0", confine.None, 2},
		// no First, nodes that do not exist, duplicates
		{count, "; *> 0", confine.None, 0}, {count, "", confine.None, 0}, {count, "0", confine.None, 0}, {count, "1 -1 5 9223372036854775807 -9223372036854775808; *> 0", confine.None, 0}, {count, "-1 0 7 0 1; *> -1 3 0", confine.Found, -1}, {count, "0; > -1 1 9223372036854775807 -9223372036854775808", confine.None, 1}, {count, "0 0; > 0 0 0 0", confine.None, 8}, {count, "1; *> 0", confine.None, 0}, {count, "1; *> 0; > 1", confine.None, 8},
		// Good shorter and longer than Nodes
		{count, "0; > 0; +; +", confine.None, 8}, {count, "0; *> 0; -; +", confine.Found, -1}, {count, "0; > 1; > 0; +", confine.None, 5 + 5},
		// letters
		{count, "0; *0 > 0", confine.None, 0}, {count, "0; *1 > 0", confine.None, 0}, {count, "0; *! 0 > 0", confine.None, 2 * (3 + 2)}, {count, "0; *5 > 0", confine.None, 0}, {count, "0; *-1 > 0", confine.None, 0}, {count, "0; *! 5 -1 > 0", confine.Found, -1}, {count, "0; ! 0 > 0 1; 0 > 1", confine.None, 8},
		// no initial state
		{"1;0..3;false", "0; *> 0", confine.None, 0}, {"0;;true", "0; *> 0", confine.None, 0}, {"1;3..2;true", "0; *> 0", confine.None, 0}, {"2 0;0..3;true", "0; *> 0", confine.None, 0},
		// several initial states: pairs that were visited before are not visited again
		{"1;0..3;true;0 0>0 / x := x + 1", "0; > 0", confine.None, 8}, {"1;0..3;x > 1;0 0>0 / x := x + 1", "0; > 0", confine.None, 4}, {"1;0..3;true;0 0>0 / x := x + 1", "0; *> 1; > 1", confine.None, 2 * (4 + 4 + 3 + 3)}, {"1;0..3;true;0 0>0 / x := x + 1", "0 1; *> 1; > 1", confine.None, 8 + 8 + 4 + 4 + 3 + 3}, {"1;0..3;true;0 0>0 / x := 0", "1 0; *> 1; > 1", confine.None, 8 + 8 + 4 + 4 + 1 + 1},
		// two acts to the same state, and an act that stays
		{"1;0..1;x = 0;0 0>0 / x := 1;0 0>0 x = 0 / x := 1", "0; > 0", confine.None, 2 + 3}, {"1;0..1;x = 0;0 0>0;0 0>0 / x := x", "0; > 0", confine.None, 1 + 2},
	} {
		s, ps, a := system(x.system), props(atoms), automaton(x.auto)
		if state, used := byLeads(s).with(ps, a).answer(); state != x.state || used != x.used && used >= 0 {
			t.Errorf("%s on %s: state %d, %d consumed by words", x.auto, x.system, state, used)
		}
		expectAnswer(t, s, ps, a, x.state, x.used)
	}
	a := automaton("0; > 1; *> 0")
	for n := range 3 {
		short := buchi.Auto{Nodes: a.Nodes, First: a.First, Good: a.Good[:n]}
		expectAnswer(t, system(ring), nil, short, []int{confine.None, confine.None, confine.Found}[n], -1)
	}
}

// TestP19_1SearchLimits: fuel at its limits, and systems that are not confined.
func TestP19_1SearchLimits(t *testing.T) {
	count, a, good := system("1;0..3;x = 0;0 0>0 / x := x + 1"), automaton("0; > 0"), automaton("0; *> 0")
	free, large := system("1;free;true"), system("1;0..1048576;true;0 0>0")
	for _, x := range []struct {
		s           api.Sys
		a           buchi.Auto
		fuel        int
		state, left int
	}{
		{count, a, 0, confine.Fuel, 0}, {count, a, -1, confine.Fuel, 0}, {count, a, math.MinInt, confine.Fuel, 0}, {count, a, 1, confine.Fuel, 0}, {count, a, 7, confine.Fuel, 0}, {count, a, 8, confine.None, 0}, {count, a, 9, confine.None, 1}, {count, a, api.MaxFuel, confine.None, api.MaxFuel - 8}, {count, a, api.MaxFuel - 1, confine.None, api.MaxFuel - 9}, {count, a, api.MaxFuel + 1, confine.None, api.MaxFuel - 8}, {count, a, math.MaxInt, confine.None, api.MaxFuel - 8},
		{count, good, 8, confine.Fuel, 0}, {count, good, 0, confine.Fuel, 0}, {count, good, -5, confine.Fuel, 0}, {count, good, 10, confine.Found, 0}, {count, good, 17, confine.Found, 7}, {count, good, math.MaxInt, confine.Found, api.MaxFuel - 10},
		{count, buchi.Auto{}, 0, confine.None, 0}, {count, buchi.Auto{}, -7, confine.None, 0}, {count, buchi.Auto{}, 7, confine.None, 7}, {count, buchi.Auto{}, math.MaxInt, confine.None, api.MaxFuel},
		{free, good, 0, confine.Fuel, 0}, {free, good, -1, confine.Fuel, 0}, {free, good, 7, confine.Fuel, 7}, {free, good, api.MaxFuel, confine.Fuel, api.MaxFuel}, {free, good, math.MaxInt, confine.Fuel, api.MaxFuel}, {free, buchi.Auto{}, 7, confine.Fuel, 7}, {large, good, 7, confine.Fuel, 7}, {large, good, math.MinInt, confine.Fuel, 0},
	} {
		b := confine.Search(x.s, nil, x.a, x.fuel)
		if b.State != x.state || b.Left != x.left || (len(b.Run.Cycle) > 0) != (b.State == confine.Found) {
			t.Errorf("fuel %d: state %d, %d left, not %d, %d", x.fuel, b.State, b.Left, x.state, x.left)
		}
	}
	if confine.Found != 1 || confine.None != 2 || confine.Fuel != 3 {
		t.Error("the states of an answer")
	}
}

// randomAuto has numbers of nodes that do not exist, duplicates, and fewer or more flags
// than nodes.
func randomAuto(r *rand.Rand, most int) buchi.Auto {
	n := one(r, 0, 1+r.Intn(most), 1+r.Intn(most), 1+r.Intn(most), most)
	list := func(most int) []int {
		var all []int
		for range one(r, r.Intn(most+1), 1+r.Intn(most), most) {
			all = append(all, r.Intn(max(n, 1)))
		}
		if r.Intn(6) == 0 {
			all = append(all, one(r, -1, n, n+1, -1<<62, 1<<62))
		}
		r.Shuffle(len(all), func(i, j int) { all[i], all[j] = all[j], all[i] })
		return all
	}
	a := buchi.Auto{First: list(3)}
	for range n {
		var must, never []int
		if r.Intn(4) == 0 {
			must = append(must, r.Intn(4)-1+r.Intn(2))
		}
		if r.Intn(4) == 0 {
			never = append(never, r.Intn(5)-1)
		}
		a.Nodes = append(a.Nodes, gba.Node{Must: must, Never: never, Next: list(3)})
	}
	for range max(n+one(r, 0, 0, -1, -2, 1, 2), 0) {
		a.Good = append(a.Good, r.Intn(3) == 0)
	}
	return a
}

func randomProps(r *rand.Rand) []api.Prop {
	var ps []api.Prop
	for range r.Intn(4) {
		ps = append(ps, api.Prop{At: r.Intn(3) == 0, Proc: r.Intn(3) - r.Intn(2), Loc: r.Intn(3), F: randomForm(r, r.Intn(2))})
	}
	return ps
}

// TestP19_3SearchByWords: the answers for pairs of small systems and automata, and how
// much fuel is consumed if there is no run.
func TestP19_3SearchByWords(t *testing.T) {
	r := rand.New(rand.NewSource(193))
	counts, used := map[int]int{}, map[int]int{}
	for range 2500 {
		s := randomSystem(r)
		if r.Intn(4) > 0 {
			s.Init = api.Form{}
		}
		ps := randomProps(r)
		w := byLeads(s)
		for range 3 {
			a := randomAuto(r, 5)
			state, cost := w.with(ps, a).answer()
			expectAnswer(t, s, ps, a, state, cost)
			counts[state]++
			used[min(max(cost, 0), 20)]++
		}
	}
	if counts[confine.Found] < 700 || counts[confine.None] < 700 || used[20] < 500 {
		t.Errorf("%v, consumed %v", counts, used)
	}
}

// TestP19_3WideByWords: acts with as many picks as are listed, and some fewer.
func TestP19_3WideByWords(t *testing.T) {
	r := rand.New(rand.NewSource(194))
	counts := map[int]int{}
	for _, text := range []string{"1;0..254", "1;0..255", "1;0..256", "2;-40..257", "2;0..15 1..16", "1;0..15 1..17", "2;0..2 0..99 3..3"} {
		for range 4 {
			s := system(text + ";" + one(r, "x = 1", "x = 1 | x = 2", "x < 0 & x > -3", "x <= 2 & y <= 2", "x > 5 & x <= 8 & y <= 2"))
			for range 1 + r.Intn(3) {
				s.Acts = append(s.Acts, act(one(r, "0 0>0 / x := *", "0 0>0 / y := *", "0 0>1 / x := *, y := *", "0 0>0 x > 4 / y := *, x := *", "0 1>0 / y := 2", "0 0>0 x <= 4 / x := *, y := *, x := 5", "0 1>0 / x := *, y := *")))
			}
			if len(s.Vars) == 1 {
				for i := range s.Acts {
					s.Acts[i].Moves = slices.DeleteFunc(s.Acts[i].Moves, func(m api.Move) bool { return m.V > 0 })
				}
			}
			ps := props(one(r, "x = 200; 0@1", "x = 7; x < 5", "x > 3; y = 2; 0@1", "x = 2 & y = 3; x = 11"))
			var autos []buchi.Auto
			for range 4 {
				autos = append(autos, randomAuto(r, 3))
			}
			for _, text := range []string{"0; > 1; *0 > 1", "0; > 1 2; 0 > 2; *1 > 0", "0; > 1; > 0 2; *0 ! 1 > 3", "0; > 1 1; 0 1 > 2; > 0 2"} {
				autos = append(autos, automaton(text))
			}
			w := byEdges(s)
			for _, a := range autos {
				state, cost := w.with(ps, a).answer()
				expectAnswer(t, s, ps, a, state, cost)
				counts[state]++
			}
		}
	}
	if counts[confine.Found] < 20 || counts[confine.None] < 100 {
		t.Errorf("%v", counts)
	}
}

// TestP19_3WideAlike: acts that lead to the same first state, and from there to others.
func TestP19_3WideAlike(t *testing.T) {
	for _, x := range []struct {
		system, atoms string
		state, used   int
	}{
		{"2;0..255 0..255;x = 0 & y = 0;0 0>1 / x := *;0 0>1 / y := *", "y = 5", confine.Found, -1}, {"2;0..255 0..255;x = 0 & y = 0;0 0>1 / y := *;0 0>1 / x := *", "x = 5", confine.Found, -1}, {"2;0..255 0..255;x = 0 & y = 0;0 0>1 / x := *;0 0>1 / y := *", "y = 5 & x = 5", confine.None, 2},
		{"2;0..127 0..127 0..1;x = 0 & y = 0 & z = 0;0 0>1 / x := *, z := *;0 0>1 / y := *, z := *", "y = 5", confine.Found, -1}, {"2;0..127 0..127 0..1;x = 0 & y = 0 & z = 0;0 0>1 / y := *, z := *;0 0>1 / x := *, z := *", "x = 5 & z = 1", confine.Found, -1}, {"2;0..1 0..127 0..127;x = 0 & y = 0 & z = 0;0 0>1 / x := *, y := *;0 0>1 / x := *, z := *", "x = 1 & z = 5", confine.Found, -1}, {"2;0..1 0..127 0..127;x = 0 & y = 0 & z = 0;0 0>1 / x := *, y := *;0 0>1 / x := *, z := *", "y = 5 & z = 5", confine.None, 2},
		{"2;0..255;x = 0;0 0>1 / x := *;0 0>1 / x := *, x := 3", "x = 7", confine.Found, -1}, {"2;0..255;x = 0;0 0>1 / x := *;0 0>1 / x := *", "x = 300", confine.None, 2},
	} {
		expectAnswer(t, system(x.system), props(x.atoms), automaton("0; *> 1; *0 > 2; *> 2"), x.state, x.used)
	}
}

// checked are a model's system, and the automaton of a property or of its negation.
func checked(t *testing.T, text, property string, deny bool) (api.Sys, api.Ltl, []api.Prop, buchi.Auto) {
	t.Helper()
	m, _, e := model.Parse(text)
	s, ok := model.System(m)
	tree, _, e2 := ltl.Parse(property, s)
	f, ps, ok2 := ltl.Resolve(tree, s)
	if deny {
		f = word.Plain(f, true)
	}
	a, e3 := buchi.For(f)
	if e != api.OK || e2 != api.OK || e3 != api.OK || !ok || !ok2 {
		t.Fatalf("errors %d, %d, %d for %s and %s", e, e2, e3, text, property)
	}
	return s, f, ps, a
}

// TestP19_3Properties: models and properties as texts. The property holds for all runs,
// for some, or for none.
func TestP19_3Properties(t *testing.T) {
	const (
		mutex   = "var turn in 0 .. 1; init true; proc p loc idle, wait, crit; idle -> wait; wait -> crit : turn = 0; crit -> idle / turn := 1; end proc q loc idle, wait, crit; idle -> wait; wait -> crit : turn = 1; crit -> idle / turn := 0; end"
		counter = "var x in 0 .. 5; init x <= 1; proc p loc a, b; a -> a : x < 4 / x := x + 2; a -> b : x >= 4 / x := x - 4; end"
		input   = "var x, y in -2 .. 2; init x = 0 & y = 0; proc p loc a, b; a -> b / x := *; b -> a / y := x, x := 0; end"
		nothing = "var x in 0 .. 5; init x > 5; proc p loc a; end"
	)
	for _, x := range []struct {
		model, property string
		some, all       bool
	}{
		{mutex, "G !(@p.crit & @q.crit)", true, true}, {mutex, "F @p.crit", true, true}, {mutex, "G F @p.crit", true, true}, {mutex, "G (@p.wait -> X @p.crit)", true, false}, {mutex, "F (@p.crit & @q.crit)", false, false}, {mutex, "G (@p.crit -> turn = 0)", true, true}, {mutex, "G F (@p.wait | @p.crit | @q.wait | @q.crit)", true, true}, {mutex, "X (@p.wait | @q.wait)", true, true},
		{counter, "F @p.b", true, true}, {counter, "F G (@p.b & x <= 1)", true, true}, {counter, "F G (@p.b & x = 0)", true, false}, {counter, "G x <= 5", true, true}, {counter, "x = 0 -> X X x = 4", true, true}, {counter, "G F @p.a", false, false}, {counter, "@p.a U @p.b", true, true}, {counter, "X X X X @p.a", false, false}, {counter, "F x = 5 | F x = 4", true, true}, {counter, "F x = 5", true, false},
		{input, "G (@p.b -> X y <= 2)", true, true}, {input, "G F y = 2", true, false}, {input, "G (x = 2 -> X y = 2)", true, true}, {input, "X x = 3", false, false}, {input, "F (y = -2 & F (y = 2))", true, false}, {input, "G (@p.a -> x = 0)", true, true}, {input, "y = 0 U x > 0 | G y <= 0", true, false}, {input, "x = 0 & (y = 0 U x > 0 | F y < 0 | G y = 0)", true, true},
		{nothing, "G x = 1", false, true}, {nothing, "F x = 9", false, true}, {nothing, "false", false, true},
	} {
		for _, deny := range []bool{false, true} {
			s, f, ps, a := checked(t, x.model, x.property, deny)
			want := confine.None
			if x.some && !deny || !x.all && deny {
				want = confine.Found
			}
			state, used := byLeads(s).with(ps, a).answer()
			if state != want {
				t.Errorf("%s, denied: %v: state %d by words", x.property, deny, state)
			}
			answer := expectAnswer(t, s, ps, a, want, used)
			if want == confine.Found && !word.Holds(f, kripke.Spell(ps, answer.Run), 0) {
				t.Errorf("%s, denied: %v, for %s", x.property, deny, toldRun(answer.Run))
			}
		}
	}
}

// TestP19_1SearchMuch: systems of 2^20 states: a long path, and acts with 2^20 picks, of
// which few are allowed, so that little fuel is consumed.
func TestP19_1SearchMuch(t *testing.T) {
	const (
		long = "var x in 0 .. 1048575; init x = 0; proc p loc a; a -> a : x < 1048575 / x := x + 1; end"
		wide = "var x, y in 0 .. 1023; init x = 0 & y = 0; proc p loc a; a -> a / x := *, y := *; end"
		n    = 1 << 20
	)
	for _, x := range []struct {
		model, property string
		state, used     int
	}{
		{long, "F x = 1048575 & !(F G x = 1048575)", confine.None, -1}, {long, "F (x = 1048574 & X X G x = 1048575)", confine.Found, -1}, {wide, "X X x > 1023", confine.None, 2 * (1 + n + n)}, {wide, "X X (x = 1000 & y = 1000 & X x > 1023)", confine.None, 2 * (1 + n + n + n + 1)},
	} {
		s, _, ps, a := checked(t, x.model, x.property, false)
		answer := confine.Search(s, ps, a, plenty)
		if answer.State != x.state || x.used >= 0 && answer.Left != plenty-x.used {
			t.Errorf("%s: state %d, %d consumed", x.property, answer.State, plenty-answer.Left)
		}
		if r := answer.Run; x.state == confine.Found && (!kripke.Right(s, r) || !buchi.Takes(a, kripke.Spell(ps, r))) {
			t.Errorf("%s: a wrong run", x.property)
		}
	}
}

// TestP19_4MoreFuel: all amounts of fuel, up to more than enough.
func TestP19_4MoreFuel(t *testing.T) {
	r := rand.New(rand.NewSource(195))
	counts := map[int]int{}
	for range 400 {
		s := randomSystem(r)
		s.Init = api.Form{}
		ps, a := randomProps(r), randomAuto(r, 4)
		whole := confine.Search(s, ps, a, plenty)
		used := plenty - whole.Left
		for fuel := range min(used, 300) + 4 {
			want := confine.Answer{State: confine.Fuel}
			if fuel >= used {
				want = confine.Answer{State: whole.State, Run: whole.Run, Left: fuel - used}
			}
			got := confine.Search(s, ps, a, fuel)
			expect(t, fmt.Sprint("fuel ", fuel, " of ", used), fmt.Sprint(got.State, got.Left, toldRun(got.Run)), fmt.Sprint(want.State, want.Left, toldRun(want.Run)))
			counts[got.State]++
		}
	}
	if counts[confine.Found] < 200 || counts[confine.None] < 200 || counts[confine.Fuel] < 1000 {
		t.Errorf("%v", counts)
	}
}

// TestP19_4Memory: arguments stay as they are, also beyond the length of lists, and
// results share no memory with them, and no lists of a result with each other.
func TestP19_4Memory(t *testing.T) {
	s := system("2;5..6 -3..-2;x = 5;0 0>1 / y := *, x := 6;1 1>0 / x := 5;0 1>0 / x := x - 1")
	ps, a := props("x = 6; 0@1"), automaton("0; > 1; *0 > 0 1")
	x := state("0 / 5 -3")
	text := func() string { return fmt.Sprintf("%+v %+v %+v %+v", s, ps, a, x) }
	before := text()
	last, _ := confine.State(s, 7)
	lists := [][]api.State{confine.Firsts(s), {last}, nil, nil}
	for _, e := range confine.Edges(s, x) {
		lists[2] = append(lists[2], e.To)
	}
	answer := confine.Search(s, ps, a, plenty)
	confine.Number(s, x)
	confine.Count(s)
	lists[3] = slices.Concat(answer.Run.Stem, answer.Run.Cycle)
	expect(t, "arguments", text(), before)

	var all []api.State
	for i, list := range lists {
		if len(list) == 0 {
			t.Errorf("list %d is empty", i)
		}
		all = append(all, list...)
	}
	for _, b := range s.Bounds { // overwritten one after the other: the others stay
		b.Lo.Abs[0], b.Hi.Abs[0] = 99, 99
	}
	x.Locs[0], x.Vals[0].Abs[0], x.Vals[1].Abs[0] = 9, 9, 9
	for i := range all {
		locs := all[i].Locs[:cap(all[i].Locs)]
		before := toldAll(slices.Concat(all[:i], all[i+1:]))
		for k := range locs {
			locs[k] = -1
		}
		for v := range all[i].Vals {
			limbs := all[i].Vals[v].Abs[:cap(all[i].Vals[v].Abs)]
			own := toldAll([]api.State{{Vals: slices.Delete(slices.Clone(all[i].Vals), v, v+1)}})
			for k := range limbs {
				limbs[k] = 77
			}
			expect(t, "other values", toldAll([]api.State{{Vals: slices.Delete(slices.Clone(all[i].Vals), v, v+1)}}), own)
		}
		expect(t, "other states", toldAll(slices.Concat(all[:i], all[i+1:])), before)
	}
}
