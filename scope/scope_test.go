package scope_test

import (
	"fmt"
	"math/rand"
	"slices"
	"testing"

	"plumbline/api"
	"plumbline/kripke"
	"plumbline/logic"
	"plumbline/scope"
	"plumbline/term"
	"plumbline/zint"
)

func one[T any](r *rand.Rand, all ...T) T { return all[r.Intn(len(all))] }

func randomTerm(r *rand.Rand, vars int) api.Term {
	t := api.Term{K: zint.Of(int64(r.Intn(5) - 2))}
	for range r.Intn(4) {
		t.Parts = append(t.Parts, api.Part{V: one(r, r.Intn(vars+3)-1, r.Intn(vars+1), 1<<32, 1<<16), C: zint.Of(int64(r.Intn(5) - 2))})
	}
	return t
}

func randomForm(r *rand.Rand, vars, depth int) api.Form {
	f := api.Form{Kind: one(r, api.True, api.Atom, api.Atom, api.Atom, api.Atom, api.False, 6), R: api.Rel{T: randomTerm(r, vars), Eq: r.Intn(3) == 0}}
	if depth > 0 {
		f.Kind = one(r, api.Atom, api.Not, api.And, api.Or)
		for range r.Intn(4) {
			f.Kids = append(f.Kids, randomForm(r, vars, depth-1))
		}
	}
	return f
}

// randomSystem has one process, and some acts that lead nowhere.
func randomSystem(r *rand.Rand) api.Sys {
	s := api.Sys{Vars: make([]string, r.Intn(3)), Procs: []api.Proc{{Locs: make([]string, 2)}}}
	n := len(s.Vars)
	for range r.Intn(4) {
		s.Bounds = append(s.Bounds, api.Bound{Is: r.Intn(3) > 0, Lo: zint.Of(-1), Hi: zint.Of(int64(1 + r.Intn(2)))})
	}
	s.Init = randomForm(r, n, r.Intn(3))
	for range 1 + r.Intn(4) {
		a := api.Act{From: r.Intn(2), To: r.Intn(2), Guard: randomForm(r, n, r.Intn(3))}
		for range r.Intn(3) {
			a.Moves = append(a.Moves, api.Move{V: r.Intn(n+2) - r.Intn(10)/9, Any: r.Intn(4) == 0, T: randomTerm(r, n)})
		}
		s.Acts = append(s.Acts, a)
	}
	return s
}

// states are those with small values, also some that do not fit.
func states(n int) []api.State {
	all := []api.State{{Locs: []int{0}}, {Locs: []int{1}}}
	for range n {
		var longer []api.State
		for _, x := range all {
			for val := int64(-2); val <= 2; val++ {
				longer = append(longer, api.State{Locs: x.Locs, Vals: append(slices.Clone(x.Vals), zint.Of(val))})
			}
		}
		all = longer
	}
	return all
}

// isOwn reports whether all variables are less than n.
func isOwn(vs []int, n int) bool {
	return !slices.ContainsFunc(vs, func(v int) bool { return v >= n })
}

// TestSys: the result has the same states and steps, and no other variables.
func TestSys(t *testing.T) {
	r := rand.New(rand.NewSource(1))
	initial, leading, changed := 0, 0, 0
	for range 400 {
		s := randomSystem(r)
		before, n := fmt.Sprintf("%+v", s), len(s.Vars)
		own := scope.Sys(s)
		if fmt.Sprintf("%+v", s) != before {
			t.Fatalf("%s becomes %+v", before, s)
		}
		if fmt.Sprintf("%+v", own) != before {
			changed++
		}
		if len(own.Acts) != len(s.Acts) || len(own.Vars) != n || !isOwn(logic.Vars(own.Init), n) {
			t.Fatalf("%s becomes %+v", before, own)
		}
		for i, a := range own.Acts {
			if !isOwn(logic.Vars(a.Guard), n) || slices.ContainsFunc(a.Moves, func(m api.Move) bool { return !isOwn(term.Vars(m.T), n) }) || len(a.Moves) != len(s.Acts[i].Moves) {
				t.Fatalf("%s becomes %+v", before, own)
			}
		}
		all := states(n)
		for _, x := range all {
			if kripke.First(s, x) != kripke.First(own, x) || kripke.Fits(s, x) != kripke.Fits(own, x) || kripke.Stuck(s, x) != kripke.Stuck(own, x) {
				t.Fatalf("%+v of %s", x, before)
			}
			if kripke.First(own, x) {
				initial++
			}
			for act := range s.Acts {
				y := one(r, all...)
				if z, ok := kripke.Go(s, x, act, nil); ok {
					y = z
				}
				if kripke.Leads(s, x, act, y) != kripke.Leads(own, x, act, y) {
					t.Fatalf("act %d from %+v to %+v of %s", act, x, y, before)
				}
				if kripke.Leads(own, x, act, y) {
					leading++
				}
			}
		}
	}
	if initial < 500 || leading < 500 || changed < 200 {
		t.Errorf("%d initial states, %d steps, %d systems that become others", initial, leading, changed)
	}
}

// TestProps: the result holds in the same states, and has no other variables.
func TestProps(t *testing.T) {
	r := rand.New(rand.NewSource(2))
	holding := 0
	for range 1000 {
		n := r.Intn(3)
		var props []api.Prop
		for range r.Intn(4) {
			props = append(props, api.Prop{At: r.Intn(3) == 0, Proc: r.Intn(3) - 1, Loc: r.Intn(2), F: randomForm(r, n, r.Intn(3))})
		}
		before := fmt.Sprintf("%+v", props)
		own := scope.Props(props, n)
		if fmt.Sprintf("%+v", props) != before || len(own) != len(props) {
			t.Fatalf("%s becomes %+v, %+v", before, props, own)
		}
		for _, p := range own {
			if !isOwn(logic.Vars(p.F), n) {
				t.Fatalf("%s becomes %+v", before, own)
			}
		}
		for _, x := range states(n) {
			letter := kripke.Letter(props, x)
			if !slices.Equal(letter, kripke.Letter(own, x)) {
				t.Fatalf("%s at %+v", before, x)
			}
			if slices.Contains(letter, true) {
				holding++
			}
		}
	}
	if holding < 1000 {
		t.Errorf("only %d states at which one holds", holding)
	}
}
