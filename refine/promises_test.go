package refine_test

import (
	"fmt"
	"math/rand"
	"slices"
	"testing"

	"plumbline/abstr"
	"plumbline/api"
	"plumbline/buchi"
	"plumbline/confine"
	"plumbline/kripke"
	"plumbline/lasso"
	"plumbline/logic"
	"plumbline/refine"
	"plumbline/word"
	"plumbline/zint"
)

// followed is the path that a list of states and the acts between them follow.
func followed(ps []api.Rel, states []api.State, acts []int) lasso.Path {
	p := lasso.Path{Acts: slices.Clone(acts)}
	for _, x := range states {
		p.States = append(p.States, abstr.Of(ps, x))
	}
	return p
}

// expectHold expects that each condition of the path that states follow holds at its
// state, also for the predicates that New returns, and for those that it then returns. It
// returns how many of these there are.
func expectHold(t *testing.T, s api.Sys, ps []api.Rel, states []api.State, acts []int) int {
	t.Helper()
	before := len(ps)
	for range 4 {
		p := followed(ps, states, acts)
		conditions := refine.Conditions(s, ps, p)
		if len(conditions) != min(len(states), len(acts)+1) {
			t.Fatalf("%d conditions for %s", len(conditions), toldPath(p))
		}
		for i, f := range conditions {
			if !logic.Holds(f, states[i].Vals) {
				t.Fatalf("state %d of %s for %s on %+v: not %s", i, toldPath(p), toldRels(ps), s, logic.Text(f, names))
			}
		}
		more, ok := refine.New(s, ps, p)
		if !ok {
			break
		}
		ps = more
	}
	return len(ps) - before
}

// someSystem has bounds or not, and many steps.
func someSystem(r *rand.Rand, confined bool, beyond int) api.Sys {
	s := randomSystem(r, confined, beyond)
	if r.Intn(3) == 0 {
		s = system(one(r, "1;0..1;true;0 0>0 / x := 1 - x", "1;0..2 0..2;true;0 0>0 / x := y, y := 2 - x", "1;0..5;x <= 2;0 0>0 / x := x + 1;0 0>0 x > 3 / x := x - 2", "2;-2..3;true;0 0>1 x < 2 / x := x + 1;0 1>0 / x := x - 2;0 0>0 x > 0 / x := -x;0 1>1 x > 1 / x := *", "1;0..2 0..2;x <= y;0 0>0 x < y / x := y, y := x;0 0>0 x >= y / y := *;0 0>0 x = y / x := 2 - x, y := x", "2 2;0..3;x = 1;0 0>1 x < 3 / x := x + 1;1 0>1 / x := 3 - x;0 1>0;1 1>0 x > 0 / x := x - 1"))
	}
	if r.Intn(3) > 0 {
		s.Init = api.Form{}
	}
	if !confined && r.Intn(2) == 0 {
		s.Bounds = nil
	}
	return s
}

// walk is some steps from a state, and the acts, each of which is now and then tried again.
func walk(r *rand.Rand, s api.Sys, x api.State, steps int) ([]api.State, []int) {
	states, acts := []api.State{x}, []int(nil)
	for range 4 * steps {
		act := r.Intn(len(s.Acts)+1) - 1
		y, ok := kripke.Go(s, x, act, []api.Int{small(r, 2), small(r, 2)})
		if ok && len(acts) < steps {
			states, acts = append(states, y), append(acts, act)
			x = y
		}
	}
	return states, acts
}

// TestP24_2Runs: steps from initial states, and also from other ones, follow paths whose
// conditions hold at these states.
func TestP24_2Runs(t *testing.T) {
	r := rand.New(rand.NewSource(243))
	long, fresh, stuck := 0, 0, 0
	for range 1200 {
		s := someSystem(r, r.Intn(2) == 0, r.Intn(2))
		ps := randomPreds(r, len(s.Vars)+r.Intn(2), 3)
		all := fitting(s, 3)
		for range min(len(all), 4) {
			states, acts := walk(r, s, one(r, all...), 1+r.Intn(7))
			fresh += expectHold(t, s, ps, states, acts)
			fresh += expectHold(t, s, ps, states, append(slices.Clone(acts), 0, -1)) // more Acts
			if len(acts) > 2 {
				expectHold(t, s, ps, states, acts[:1])
				expectHold(t, s, ps, states[1:], acts[1:])
				long++
			}
			if slices.Contains(acts, -1) {
				stuck++
			}
		}
	}
	if long < 1000 || fresh < 5000 || stuck < 300 {
		t.Errorf("%d paths of more than two acts, %d of a stuck state, and %d predicates", long, stuck, fresh)
	}
}

// TestP24_2Valid: valid runs that layer 19 finds, whose cycles are repeated.
func TestP24_2Valid(t *testing.T) {
	r := rand.New(rand.NewSource(244))
	long, fresh := 0, 0
	for range 600 {
		s := someSystem(r, true, 0)
		ps := randomPreds(r, len(s.Vars), 2)
		var props []api.Prop
		for _, p := range ps {
			props = append(props, api.Prop{F: api.Form{Kind: api.Atom, R: p}})
		}
		atom := api.Ltl{Kind: api.TCmp, Prop: r.Intn(2)}
		f := api.Ltl{Kind: one(r, api.TAll, api.TSome, api.TNext), Kids: []api.Ltl{{Kind: one(r, api.TNot, api.TSome, api.TNext), Kids: []api.Ltl{atom}}}}
		a, _ := buchi.For(one(r, f, word.Plain(f, true)))
		found := confine.Search(s, props, a, 1<<20)
		if found.State != confine.Found {
			continue
		}
		run := found.Run
		if !kripke.Right(s, run) {
			t.Fatal("the run is not valid")
		}
		n := len(run.Stem)
		states, acts := slices.Clone(run.Stem), slices.Clone(run.Acts[:n])
		for range 3 {
			states, acts = append(states, run.Cycle...), append(acts, run.Acts[n:]...)
		}
		fresh += expectHold(t, s, ps, states, acts[:len(acts)-1])
		if len(acts) > 4 {
			long++
		}
	}
	if long < 100 || fresh < 1000 {
		t.Errorf("%d long runs, %d predicates", long, fresh)
	}
}

// follows reports whether steps from a state follow a path, whose acts have no Any.
func follows(s api.Sys, ps []api.Rel, p lasso.Path, x api.State) bool {
	for i, at := range p.States {
		if !abstr.Same(abstr.Of(ps, x), at) {
			return false
		}
		if i+1 == len(p.States) {
			break
		}
		y, ok := kripke.Go(s, x, p.Acts[i], nil)
		if !ok {
			return false
		}
		x = y
	}
	return true
}

// TestP24_1Exact: without Any, a condition holds exactly at those states from which the
// rest of the path is feasible.
func TestP24_1Exact(t *testing.T) {
	r := rand.New(rand.NewSource(245))
	counts := map[bool]int{}
	for range 1500 {
		s := someSystem(r, r.Intn(2) == 0, 0)
		for i := range s.Acts {
			for j := range s.Acts[i].Moves {
				s.Acts[i].Moves[j].Any = false
			}
		}
		ps := randomPreds(r, len(s.Vars), 2)
		all := fitting(s, 3)
		if len(all) == 0 {
			continue
		}
		states, acts := walk(r, s, one(r, all...), 1+r.Intn(4))
		p := followed(ps, states, acts)
		if a := p.States[r.Intn(len(p.States))]; len(a.Bits) > 0 && r.Intn(3) == 0 {
			a.Bits[r.Intn(len(a.Bits))] = r.Intn(2) == 0
		}
		for i, f := range refine.Conditions(s, ps, p) {
			rest := lasso.Path{States: p.States[i:], Acts: p.Acts[i:]}
			for _, x := range all {
				x.Locs = p.States[i].Locs
				want := follows(s, ps, rest, x)
				if got := logic.Holds(f, x.Vals); got != want {
					t.Fatalf("state %d of %s for %s on %+v: %v at %v: %s", i, toldPath(p), toldRels(ps), s, got, x, logic.Text(f, names))
				}
				counts[want]++
			}
		}
	}
	if counts[true] < 5000 || counts[false] < 5000 {
		t.Errorf("%v", counts)
	}
}

// TestP24_4Memory: arguments stay as they are, and results have memory of their own, and
// each of their lists.
func TestP24_4Memory(t *testing.T) {
	s := system("2;0..9 free;x = 4;0 0>1 x < 8 & y != 3 / x := x + 1, y := x;0 1>0 / x := 7 - x")
	ps := make([]api.Rel, 3, 8)
	copy(ps, preds("x >= 4; y = 5; x + y >= 9"))
	p := pathOf("0 /+--; 1 /+-+; 0 /+--; 0 /+-- >0 1 -1")
	text := func() string {
		return fmt.Sprintf("%+v %s %+v %s", s, toldRels(ps), ps[:cap(ps)][3:], toldPath(p))
	}
	before := text()
	conditions := refine.Conditions(s, ps, p)
	all, more := refine.New(s, ps, p)
	expect(t, "arguments", text(), before)
	if len(conditions) != 4 || !more || len(all) < 9 {
		t.Fatalf("%d conditions, %d predicates", len(conditions), len(all))
	}
	toldForms := func() string { return logic.Text(api.Form{Kind: api.And, Kids: conditions}, names) }
	forms, rels := toldForms(), toldRels(all)

	ps[0].T.K.Abs[0], ps[0].T.Parts[0].C.Abs[0], ps[1].T.K.Abs[0] = 77, 77, 77
	s.Acts[0].Guard.Kids[0].R.T.K.Abs[0], s.Acts[0].Moves[0].T.K.Abs[0], s.Acts[1].Moves[0].T.K.Abs[0] = 77, 77, 77
	s.Bounds[0].Hi.Abs[0], s.Acts[0].Guard.Kids[1].Kids[0].R.T.Parts[0].C.Abs[0] = 77, 77
	for _, a := range p.States {
		a.Locs[0], a.Bits[0] = 9, false
	}
	clear(p.Acts)
	expect(t, "conditions", toldForms(), forms)
	expect(t, "predicates", toldRels(all), rels)

	for i := range conditions {
		rest := api.Form{Kind: api.And, Kids: conditions[i+1:]}
		was := logic.Text(rest, names)
		spoil(conditions[i])
		expect(t, "other conditions", logic.Text(rest, names), was)
	}
	for i := range all {
		was := toldRels(all[i+1:])
		spoilRel(all[i])
		expect(t, "other predicates", toldRels(all[i+1:]), was)
	}
}

// spoil overwrites all lists of a formula, also beyond their lengths.
func spoil(f api.Form) {
	spoilRel(f.R)
	for _, kid := range f.Kids {
		spoil(kid)
	}
	for i := range f.Kids[:cap(f.Kids)] {
		f.Kids[:cap(f.Kids)][i] = api.Form{Kind: api.False}
	}
}

func spoilRel(r api.Rel) {
	spoilInt(r.T.K)
	for _, part := range r.T.Parts {
		spoilInt(part.C)
	}
	for i := range r.T.Parts[:cap(r.T.Parts)] {
		r.T.Parts[:cap(r.T.Parts)][i] = api.Part{V: 9, C: zint.Of(9)}
	}
}

func spoilInt(n api.Int) {
	for i := range n.Abs[:cap(n.Abs)] {
		n.Abs[:cap(n.Abs)][i] = 99
	}
}
