package lasso_test

import (
	"fmt"
	"math/rand"
	"slices"
	"testing"

	"plumbline/abstr"
	"plumbline/api"
	"plumbline/buchi"
	"plumbline/dfs"
	"plumbline/kripke"
	"plumbline/lasso"
	"plumbline/zint"
)

// lassos are all lassos of steps of a system, of at most most states, whose first state is
// among Starts.
func lassos(s api.Sys, ps []api.Rel, most int) []dfs.Lasso {
	var all []dfs.Lasso
	var path []abstr.Abs
	var acts []int
	known := map[string][]abstr.Step{}
	var extend func(at abstr.Abs)
	extend = func(at abstr.Abs) {
		name := told(at)
		steps, ok := known[name]
		if !ok {
			steps, _, _ = abstr.Steps(s, ps, at, plenty)
			known[name] = steps
		}
		path = append(path, at)
		for _, step := range steps {
			acts = append(acts, step.Act)
			for i := range path {
				if abstr.Same(path[i], step.To) {
					all = append(all, dfs.Lasso{Stem: slices.Clone(path[:i]), Cycle: slices.Clone(path[i:]), Acts: slices.Clone(acts)})
				}
			}
			if len(path) < most {
				extend(step.To)
			}
			acts = acts[:len(acts)-1]
		}
		path = path[:len(path)-1]
	}
	starts, _, _ := abstr.Starts(s, ps, plenty)
	for _, start := range starts {
		extend(start)
	}
	return all
}

// bounded are systems with bounds that have many lassos of all kinds.
func bounded(r *rand.Rand) (api.Sys, []api.Rel) {
	s := randomSystem(r, true)
	if r.Intn(3) == 0 {
		s = system(one(r, "1;0..1;true;0 0>0 / x := 1 - x", "1;0..2 0..2;true;0 0>0 / x := y, y := 2 - x", "1;0..5;x <= 2;0 0>0 / x := x + 1;0 0>0 x > 3 / x := x - 2", "2;-2..3;true;0 0>1 x < 2 / x := x + 1;0 1>0 / x := x - 2;0 0>0 x > 0 / x := -x;0 1>1 x > 1 / x := *", "1;0..2 0..2;x <= y;0 0>0 x < y / x := y, y := x;0 0>0 x >= y / y := *;0 0>0 x = y / x := 2 - x, y := x", "2 2;0..3;x = 1;0 0>1 x < 3 / x := x + 1;1 0>1 / x := 3 - x;0 1>0;1 1>0 x > 0 / x := x - 1"))
	}
	if r.Intn(3) > 0 {
		s.Init = api.Form{}
	}
	return s, randomPreds(r, len(s.Vars), 2)
}

// TestP23_2ByRuns: answers for lassos of small bounded systems against all of their runs:
// a lasso is Real if a run repeats a state in this way, and Dead if no run follows it.
func TestP23_2ByRuns(t *testing.T) {
	r := rand.New(rand.NewSource(232))
	counts := map[string]int{}
	for range 250 {
		s, ps := bounded(r)
		all := fitting(s, 6)
		found := lassos(s, ps, 3)
		if len(found) == 0 {
			continue
		}
		for range 6 {
			l, rounds := one(r, found...), 1+r.Intn(3)
			if _, q := checkByWords(s, ps, l, rounds, plenty); q.open > 0 {
				counts["not answered"]++
				continue
			}
			want := checkByRuns(s, ps, l, rounds, all)
			a := lasso.Check(s, ps, l, rounds, plenty)
			text := toldAnswer(t, s, ps, l, lasso.Answer{State: a.State, Run: a.Run, Path: a.Path})
			got := fmt.Sprint(a.State, " ", text[len("1, 0 left, "):])
			expect(t, fmt.Sprintf("%d rounds of %s for %v on %+v", rounds, toldLasso(l), ps, s), got, want)
			if kind := got[:1]; len(got) > 40 || kind == "1" {
				counts[kind]++
			}
			if a.State == lasso.Dead && len(reaching(s, ps, a.Path, all, all)) > 0 {
				counts["dead by its start"]++
			}
			if a.State == lasso.Real && len(a.Run.Cycle) > len(l.Cycle) {
				counts["in several rounds"]++
			}
		}
	}
	if counts["1"] < 300 || counts["2"] < 50 || counts["3"] < 10 || counts["dead by its start"] < 3 || counts["in several rounds"] < 10 || counts["not answered"] > 50 {
		t.Errorf("%v", counts)
	}
}

// TestP23_2ByWords: answers for lassos of systems with bounds and without, many of them
// with a change, against the questions of the document, with the fuel consumed.
func TestP23_2ByWords(t *testing.T) {
	r := rand.New(rand.NewSource(233))
	counts := map[string]int{}
	for i := range 250 {
		s, ps := bounded(r)
		if i%2 == 0 {
			s.Bounds = nil
		}
		found := lassos(s, ps, 3)
		for range min(len(found), 3) {
			l := one(r, found...)
			if r.Intn(3) == 0 {
				l = spoilt(r, l)
			}
			got, q := expectAnswer(t, s, ps, l, r.Intn(5)-1)
			counts[got[:1]]++
			counts["questions"] += q.count
		}
	}
	if counts["1"] < 100 || counts["2"] < 50 || counts["3"] < 50 || counts["questions"] < 1000 {
		t.Errorf("%v", counts)
	}
}

// spoilt is a lasso with a change.
func spoilt(r *rand.Rand, l dfs.Lasso) dfs.Lasso {
	l = dfs.Lasso{Stem: slices.Clone(l.Stem), Cycle: slices.Clone(l.Cycle), Acts: slices.Clone(l.Acts)}
	a := &l.Cycle[r.Intn(len(l.Cycle))]
	if len(l.Stem) > 0 && r.Intn(2) == 0 {
		a = &l.Stem[r.Intn(len(l.Stem))]
	}
	a.Locs, a.Bits = slices.Clone(a.Locs), slices.Clone(a.Bits)
	switch i := r.Intn(len(l.Acts)); r.Intn(5) {
	case 0:
		l.Acts[i] += r.Intn(5) - 2
	case 1:
		if len(a.Locs) > 0 {
			a.Locs[r.Intn(len(a.Locs))] += r.Intn(3) - 1
		}
	case 2:
		if len(a.Bits) > 0 {
			a.Bits[r.Intn(len(a.Bits))] = r.Intn(2) == 0
		}
	case 3:
		a.Bits = append(a.Bits[:max(len(a.Bits)-r.Intn(2), 0)], make([]bool, r.Intn(2))...)
	case 4:
		l.Acts = l.Acts[:i]
	}
	return l
}

// TestP23_2Search: lassos that layer 22 finds in systems without bounds. If one is Dead,
// no run of a few states follows its path.
func TestP23_2Search(t *testing.T) {
	r := rand.New(rand.NewSource(234))
	counts := map[int]int{}
	for range 400 {
		s := randomSystem(r, false)
		if r.Intn(2) == 0 {
			s = system(one(r, "1;free;x = 0;0 0>0 / x := x + 1", "2;free;true;0 0>1 x < 3 / x := x + 1;0 1>0 / x := x - 2;0 0>0 x > 0 / x := *", "1;free free;x = 0;0 0>0 x < y / x := y, y := x;0 0>0 x >= y / y := *", "2;free free;x > 0;0 0>1 / y := 2*x;0 1>0 y > 3 / x := x - 1;0 1>0 y <= 3 / x := x + 1"))
		}
		ps := randomPreds(r, len(s.Vars), 2)
		var props []api.Prop
		for _, p := range ps {
			props = append(props, api.Prop{F: api.Form{Kind: api.Atom, R: p}})
		}
		ps, _ = abstr.Base(props)
		a := automaton(one(r, "0; *> 0", "0; > 0 1; *0 > 1", "0; > 0 1; *! 0 > 1", "0; 0 > 1; *! 0 > 0", "0; *0 > 1; ! 0 > 2; 0 > 0", "0; > 1; *0 1 > 2; ! 1 > 1"))
		found := dfs.Search(s, props, ps, a, plenty)
		if found.State != dfs.Found {
			continue
		}
		l := found.Lasso
		answer := lasso.Check(s, ps, l, 4, plenty)
		counts[answer.State]++
		toldAnswer(t, s, ps, l, answer)
		if w := kripke.Spell(props, answer.Run); answer.State == lasso.Real && !buchi.Takes(a, w) {
			t.Fatalf("%s: its run has another word", toldLasso(l))
		}
		all := fitting(s, 3)
		initial := slices.DeleteFunc(slices.Clone(all), func(x api.State) bool { return !kripke.First(s, x) })
		if answer.State == lasso.Dead && len(reaching(s, ps, answer.Path, initial, all)) > 0 {
			t.Fatalf("%s of %+v: a run follows %s", toldLasso(l), s, toldPath(answer.Path))
		}
	}
	if counts[lasso.Real] < 20 || counts[lasso.Dead] < 20 || counts[lasso.Open] < 20 {
		t.Errorf("%v", counts)
	}
}

// TestP23_3MoreFuel: all amounts of fuel up to more than enough, also with the run.
func TestP23_3MoreFuel(t *testing.T) {
	for _, x := range []struct {
		system, preds, lasso string
		state                int
	}{
		{later, "x >= 9", "| 0 /- >0", lasso.Real}, {two, "x >= 9; x = 1", "0 /-- >0; 1 /-+ >1; 0 /+- >0 | 1 /+- >2", lasso.Real}, {counter, "x >= 2", "| 0 /- >0", lasso.Dead}, {counter, "x >= 7", "| 0 /- >0", lasso.Open}, {"1;free;3*x + 1 > 7;0 0>0 x < 4 / x := 5 - x", "2*x >= 5", "| 0 /+ >0; 0 /- >0", lasso.Real},
	} {
		s, ps, l := system(x.system), preds(x.preds), lassoOf(x.lasso)
		whole := lasso.Check(s, ps, l, 3, plenty)
		used := plenty - whole.Left
		if whole.State != x.state || used < 10 {
			t.Errorf("%s: state %d, %d consumed", x.lasso, whole.State, used)
		}
		known := false
		for fuel := range used + 100 {
			a := lasso.Check(s, ps, l, 3, fuel)
			got := fmt.Sprint(toldAnswer(t, s, ps, l, a), toldRun(a.Run))
			if got == nothing+toldRun(api.Run{}) && !known && fuel < used+50 {
				continue
			}
			known = true
			want := lasso.Answer{State: whole.State, Run: whole.Run, Path: whole.Path, Left: fuel - used}
			expect(t, fmt.Sprint("fuel ", fuel, " of ", used), got, fmt.Sprint(toldAnswer(t, s, ps, l, want), toldRun(want.Run)))
		}
	}
}

// TestP23_4Memory: results have memory of their own, and each of their lists.
func TestP23_4Memory(t *testing.T) {
	s := system("2;0..9 free;x = 4 & y = 5;0 0>1 / x := 7 - x, y := x;0 1>0 y > 3 / x := 7 - x;0 1>0 y <= 3 / y := 4")
	ps := preds("x >= 4; y >= 4; x >= 9")
	l := lassoOf("0 /++- >0; 1 /-+- >1; 0 /++- >0 | 1 /-+- >1; 0 /++- >0")
	states := slices.Concat(l.Stem, l.Cycle)
	text := func() string { return fmt.Sprintf("%+v %+v %s %v", s, ps, toldAll(states), l.Acts) }
	before := text()
	l.Stem, l.Cycle = states[:3], states[3:]
	real := lasso.Check(s, ps, l, 1, plenty)
	if expect(t, "arguments", text(), before); real.State != lasso.Real || len(real.Run.Stem) != 3 {
		t.Fatalf("state %d, %s", real.State, toldRun(real.Run))
	}
	run := toldRun(real.Run)
	clear(states[0].Locs)
	for i := range states {
		states[i].Locs[0], states[i].Bits[0] = 9, !states[i].Bits[0]
	}
	s.Bounds[0].Hi.Abs[0], s.Acts[0].Moves[0].T.K.Abs[0], s.Acts[2].Moves[0].T.K.Abs[0], s.Init.Kids[0].R.T.K.Abs[0], ps[0].T.K.Abs[0] = 99, 99, 99, 99, 99
	expect(t, "the run", toldRun(real.Run), run)
	_, _ = append(real.Run.Stem, api.State{}), append(real.Run.Stem[0].Vals, zint.Of(99))
	all := slices.Concat(real.Run.Stem, real.Run.Cycle)
	for i := range all {
		for v := range all[i].Vals {
			n := all[i].Vals[v]
			others := slices.Clone(all)
			others[i].Vals = slices.Clone(all[i].Vals)
			others[i].Vals[v] = api.Int{}
			own := func() string { return toldRun(api.Run{Cycle: others, Acts: real.Run.Acts}) }
			was := own()
			for k := range n.Abs[:cap(n.Abs)] {
				n.Abs[:cap(n.Abs)][k] = 77
			}
			all[i].Vals = all[i].Vals[:cap(all[i].Vals)]
			expect(t, "other values", own(), was)
		}
	}

	s, ps, l = system(counter), preds("x >= 2"), lassoOf("| 0 /- >0")
	dead := lasso.Check(s, ps, l, 2, plenty)
	path := toldPath(dead.Path)
	l.Cycle[0].Locs[0], l.Cycle[0].Bits[0], l.Acts[0] = 9, true, 9
	expect(t, "the path", toldPath(dead.Path), path)
	for i := range dead.Path.States {
		a := &dead.Path.States[i]
		for j := range a.Locs[:cap(a.Locs)] {
			a.Locs[:cap(a.Locs)][j] = 5
		}
		for j := range a.Bits[:cap(a.Bits)] {
			a.Bits[:cap(a.Bits)][j] = true
		}
		rest := lasso.Path{States: dead.Path.States[i+1:], Acts: dead.Path.Acts}
		if want := toldPath(lasso.Path{States: pathOf(lassoOf("| 0 /- >0"), 2).States[i+1:], Acts: []int{0, 0}}); toldPath(rest) != want {
			t.Errorf("other states: %s", toldPath(rest))
		}
	}
}
