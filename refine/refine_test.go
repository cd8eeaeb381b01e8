package refine_test

import (
	"fmt"
	"math/rand"
	"slices"
	"strings"
	"testing"

	"plumbline/abstr"
	"plumbline/api"
	"plumbline/lasso"
	"plumbline/logic"
	"plumbline/refine"
	"plumbline/rel"
	"plumbline/wp"
	"plumbline/zint"
)

const (
	counter = "1;free;x = 0;0 0>0 / x := x + 1;0 0>0 x > 3 / x := *"
	ranged  = "2;0..3;x = 0;0 0>1 / x := x + 1;0 1>1 x < 2;0 1>0 x > 1 / x := 3 - x"
	swap    = "1;free 0..9;x = 0;0 0>0 / x := y, y := x;0 0>0 y > x / y := *, x := 2*x"
)

// conditionByWords is the condition of the first state of a path that ends with its last
// state, by the document's words.
func conditionByWords(s api.Sys, ps []api.Rel, states []abstr.Abs, acts []int) api.Form {
	cube := abstr.Cube(ps, states[0].Bits)
	if len(states) == 1 {
		return cube
	}
	rest := conditionByWords(s, ps, states[1:], acts[1:])
	if acts[0] == -1 {
		return api.Form{Kind: api.And, Kids: []api.Form{cube, wp.Stuck(s, states[0].Locs, 0), rest}}
	}
	return api.Form{Kind: api.And, Kids: []api.Form{cube, wp.Pre(s, acts[0], rest)}}
}

// conditionsByWords are the conditions of a path: one for each of its states, but for those
// that no act leads to.
func conditionsByWords(s api.Sys, ps []api.Rel, p lasso.Path) []api.Form {
	states := p.States
	if len(p.Acts) < len(states) {
		states = states[:len(p.Acts)+1]
	}
	var all []api.Form
	for i := range states {
		all = append(all, conditionByWords(s, ps, states[i:], p.Acts[i:]))
	}
	return all
}

// expectConditions expects the conditions of the document's words, and returns them.
func expectConditions(t *testing.T, s api.Sys, ps []api.Rel, p lasso.Path) []api.Form {
	t.Helper()
	got, want := refine.Conditions(s, ps, p), conditionsByWords(s, ps, p)
	if !slices.EqualFunc(got, want, logic.Same) {
		t.Errorf("%s for %s on %+v:", toldPath(p), toldRels(ps), s)
		for i := range max(len(got), len(want)) {
			t.Errorf("state %d: %.300s, not %.300s", i, logic.Text(logic.All(got[min(i, len(got)):]...), names), logic.Text(logic.All(want[min(i, len(want)):]...), names))
		}
	}
	return got
}

func TestP24_1Conditions(t *testing.T) {
	for _, x := range []struct{ system, preds, path, want string }{
		// the document's example
		{counter, "x >= 2", "0 /-; 0 /-; 0 /- >0 0", "x < 0; x < 1; x < 2"}, {counter, "x >= 2", "0 /-; 0 /-; 0 /+ >0 0", "x = 0; x = 1; x >= 2"}, {counter, "x >= 2", "0 /-; 0 /+; 0 /+ >0 0", "x = 1; x >= 2; x >= 2"}, {counter, "x >= 2", "0 /+; 0 /- >0", "false; x < 2"}, {counter, "", "0 /; 0 /; 0 / >0 0", "true; true; true"},
		// no state, and one
		{counter, "x >= 2", "", ""}, {counter, "x >= 2", ">0 0", ""}, {counter, "x >= 2", "0 /-", "x < 2"}, {counter, "x >= 2", "0 /+ >0", "x >= 2"}, {counter, "x >= 2", "0 /+ >7 -1 0", "x >= 2"}, {counter, "", "0 /", "true"},
		// fewer Acts, and more
		{counter, "x >= 2", "0 /-; 0 /+; 0 /+ >0", "x = 1; x >= 2"}, {counter, "x >= 2", "0 /-; 0 /+; 0 /+", "x < 2"}, {counter, "x >= 2", "0 /+; 0 /-; 0 /-; 0 /-; 0 /- >1 0", "x > 3; x < 1; x < 2"}, {counter, "x >= 2", "0 /-; 0 /+ >0 0", "x = 1; x >= 2"}, {counter, "x >= 2", "0 /-; 0 /+ >0 9 -1", "x = 1; x >= 2"}, {counter, "x >= 2", "0 /-; 0 /+; 0 /+ >0 0 1", "x = 1; x >= 2; x >= 2"},
		// guards, bounds and any values
		{counter, "x >= 2", "0 /+; 0 /- >1", "x > 3; x < 2"}, {counter, "x >= 2", "0 /-; 0 /- >1", "false; x < 2"}, {ranged, "x >= 2", "0 /-; 1 /-; 1 /- >0 1", "x >= -1 & x <= 0; x >= 0 & x < 2; x < 2"}, {ranged, "", "0 /; 1 /; 0 / >0 2", "x >= 1 & x <= 2; x >= 2 & x <= 3; true"}, {ranged, "x = 1", "1 /-; 0 /+; 1 /- >2 0", "x = 2; x = 1; x != 1"}, {ranged, "x = 1", "1 /-; 0 /-; 1 /- >2 0", "false; x = -1 | x = 2; x != 1"},
		{swap, "x < y", "0 /+; 0 /-; 0 /- >0 0", "false; x >= 0 & x <= 9 & x = y; x >= y"}, {swap, "x < y; x >= 5", "0 /+-; 0 /-+; 0 /-+ >0 1", "false; false; x >= y & x >= 5"}, {swap, "x < y; x >= 5", "0 /+-; 0 /-+ >0", "x < y & x < 5 & y >= 5 & x >= 0 & x <= 9; x >= y & x >= 5"}, {swap, "x < y; x >= 5", "0 /+-; 0 /-+ >1", "x < y & x < 5 & x >= 3; x >= y & x >= 5"}, {"1;free 5..4;true;0 0>0 / x := x;0 0>0 / y := *", "", "0 /; 0 / >0", "y >= 5 & y <= 4; true"}, {"1;free 5..4;true;0 0>0 / x := x;0 0>0 / y := *", "", "0 /; 0 / >1", "false; true"},
		// the act -1 in front, in the middle and at the end
		{ranged, "x = 1", "1 /+; 1 /+ >-1", "false; x = 1"}, {ranged, "x = 1", "0 /-; 0 /- >-1", "x < -1 | x > 2; x != 1"}, {ranged, "x = 1", "0 /-; 0 /-; 1 /- >-1 0", "false; x >= -1 & x <= 2 & x != 1 & x != 0; x != 1"}, {"2;free;true;0 0>1 x < 9 / x := x + 1", "x >= 3", "0 /-; 1 /+; 1 /+ >0 -1", "x = 2; x >= 3; x >= 3"}, {"2;free;true;0 0>1 x < 9 / x := x + 1", "x >= 3", "0 /-; 0 /-; 1 /+; 1 /+ >-1 0 -1", "false; x = 2; x >= 3; x >= 3"}, {"2;free;true;0 0>1 x < 9 / x := x + 1", "x >= 3", "0 /+; 0 /+ >-1", "x >= 9; x >= 3"}, {"2;free;true;0 0>1 x < 9 / x := x + 1", "x >= 3", "7 /+; 7 /+ >-1", "x >= 3; x >= 3"}, {"2;free;true;0 0>1 x < 9 / x := x + 1", "x >= 3", "0 /+; 0 / >-1 -1", "x >= 9; true"},
		// acts that do not exist or are not sound; the locations of an act do not matter
		{counter, "x >= 2", "0 /-; 0 /- >2", "false; x < 2"}, {counter, "x >= 2", "0 /-; 0 /- >-2", "false; x < 2"}, {counter, "x >= 2", "0 /-; 0 /-; 0 /- >0 9223372036854775807", "false; false; x < 2"}, {counter, "x >= 2", "0 /-; 0 /-; 0 /- >-9223372036854775808 0", "false; x < 1; x < 2"}, {"1;free;true;3 0>0;0 0>1;0 0>0 / 1 := *", "", "0 /; 0 / >0", "false; true"}, {"1;free;true;3 0>0;0 0>1;0 0>0 / 1 := *", "", "0 /; 0 / >1", "false; true"}, {"1;free;true;3 0>0;0 0>1;0 0>0 / 1 := *", "", "0 /; 0 / >2", "false; true"}, {"1;free;true;3 0>0;0 0>1;0 0>0 / 1 := *", "", "0 /; 0 / >-1", "true; true"}, {ranged, "x >= 2", "7 /-; 3 3 /+ >0", "x = 1; x >= 2"}, {ranged, "x >= 2", "/+; / >2", "x >= 2 & x <= 3; true"},
		// predicates without a bit, and bits without a predicate
		{counter, "x >= 2; x >= 5", "0 /-; 0 / >0", "x < 2; true"}, {counter, "x >= 2; x >= 5", "0 /+-; 0 /+ >0", "x >= 2 & x < 5; x >= 2"}, {counter, "x >= 2", "0 /-++; 0 /++ >0", "x = 1; x >= 2"}, {counter, "", "0 /-++; 0 /++ >0", "true; true"}, {counter, "0 >= 0; 0 = 1", "0 /+-; 0 /+- >0", "true; true"}, {counter, "0 >= 0; 0 = 1", "0 /+-; 0 /++ >0", "false; false"},
		// no processes, no variables, no acts
		{";;true", "", "/; / >-1", "true; true"}, {";;true", "", "/; / >0", "false; true"}, {";free;true", "x >= 4", "/+; /- >-1", "false; x < 4"}, {"1;;true;0 0>0 false", "", "0 /; 0 / >0", "false; true"}, {"0;free;true", "x >= 4", "0 /+", "x >= 4"},
	} {
		s, ps, p := system(x.system), preds(x.preds), pathOf(x.path)
		what := x.path + " for " + x.preds + " on " + x.system
		got := expectConditions(t, s, ps, p)
		var want []string
		if x.want != "" {
			want = strings.Split(x.want, ";")
		}
		if len(got) != len(want) {
			t.Errorf("%s: %d conditions", what, len(got))
			continue
		}
		for i := range want {
			expectForm(t, fmt.Sprint("state ", i, " of ", what), got[i], want[i])
		}
	}
}

// randomPath has locations, bits and acts of all sorts.
func randomPath(r *rand.Rand, s api.Sys, ps []api.Rel) lasso.Path {
	var p lasso.Path
	for range r.Intn(6) {
		var a abstr.Abs
		for range len(s.Procs) + one(r, 0, 0, 0, 0, 0, 1) {
			a.Locs = append(a.Locs, one(r, 0, 0, 0, 1, 1, 2, -1))
		}
		for range max(len(ps)+one(r, 0, 0, 0, 0, 0, -1, 1), 0) {
			a.Bits = append(a.Bits, r.Intn(2) == 0)
		}
		p.States = append(p.States, a)
	}
	for range max(len(p.States)+one(r, -1, -1, -1, -1, -2, 0, 1), 0) {
		act := r.Intn(max(len(s.Acts), 1))
		if r.Intn(6) == 0 {
			act = one(r, -1, -1, -1, len(s.Acts), -2, 1<<62)
		}
		p.Acts = append(p.Acts, act)
	}
	return p
}

func TestP24_1ConditionsByWords(t *testing.T) {
	r := rand.New(rand.NewSource(241))
	count := 0
	for range 3000 {
		s := randomSystem(r, r.Intn(3) > 0, r.Intn(2))
		ps := randomPreds(r, len(s.Vars)+r.Intn(2), 3)
		for range 3 {
			count += len(expectConditions(t, s, ps, randomPath(r, s, ps)))
		}
	}
	if count < 15000 {
		t.Errorf("only %d conditions", count)
	}
}

// leaves are the relations of a flat formula, from left to right.
func leaves(f api.Form) []api.Rel {
	if f.Kind == api.Atom {
		return []api.Rel{f.R}
	}
	var all []api.Rel
	for _, kid := range f.Kids {
		all = append(all, leaves(kid)...)
	}
	return all
}

// newByWords are the predicates of New by the document's words.
func newByWords(s api.Sys, ps []api.Rel, p lasso.Path) []api.Rel {
	var all []api.Rel
	for _, r := range ps {
		all = append(all, rel.Move(r, 0))
	}
	conditions := conditionsByWords(s, ps, p)
	for i := range conditions {
		for _, r := range leaves(logic.Flat(conditions[len(conditions)-1-i])) {
			known := slices.ContainsFunc(all, func(old api.Rel) bool { return rel.Same(old, r) })
			if !known && len(all) < api.MaxPreds {
				all = append(all, r)
			}
		}
	}
	return all
}

// expectNew expects the predicates of the document's words, and what P24.3 says of them.
// It returns the new ones.
func expectNew(t *testing.T, s api.Sys, ps []api.Rel, p lasso.Path) []api.Rel {
	t.Helper()
	all, more := refine.New(s, ps, p)
	what := fmt.Sprintf("%s for %s on %+v", toldPath(p), toldRels(ps), s)
	want := newByWords(s, ps, p)
	expect(t, what, toldRels(all), toldRels(want))
	expect(t, "in the form of results, "+what, fmt.Sprint(all), fmt.Sprint(want)) // also where no relation is gathered
	if more != (len(want) > len(ps)) {
		t.Errorf("%d predicates, more: %v: %.500s", len(all), more, what)
	}
	if len(all) > max(api.MaxPreds, len(ps)) || len(all) < len(ps) || !slices.EqualFunc(all[:len(ps)], ps, rel.Same) {
		t.Errorf("%d predicates: %.500s", len(all), what)
	}
	fresh := all[len(ps):]
	for i, r := range fresh {
		if tight, truth := rel.Tight(r); truth != 0 || !rel.Same(tight, r) {
			t.Errorf("not tight: %s: %.500s", rel.Text(r, names), what)
		}
		if slices.ContainsFunc(all[:len(ps)+i], func(old api.Rel) bool { return rel.Same(old, r) }) {
			t.Errorf("not distinct: %s: %.500s", rel.Text(r, names), what)
		}
	}
	return fresh
}

func TestP24_1New(t *testing.T) {
	for _, x := range []struct{ system, preds, path, want string }{
		// the document's example
		{counter, "x >= 2", "0 /-; 0 /-; 0 /- >0 0", "-x + 1 >= 0; -x >= 0; -x - 1 >= 0"}, {counter, "x < 2", "0 /+; 0 /+; 0 /+ >0 0", "-x >= 0; -x - 1 >= 0"}, {counter, "x < 2", "0 /-; 0 /-; 0 /- >0 0", "x - 2 >= 0; x - 1 >= 0; x >= 0"},
		// from the last state to the first, each from left to right
		{counter, "x >= 2", "0 /-; 0 /+; 0 /+ >0 0", "x - 1 >= 0; -x + 1 >= 0; x >= 0"}, {counter, "x >= 2", "0 /-; 0 /+; 0 /- >0 1", "-x + 1 >= 0; x - 4 >= 0; x - 1 >= 0; x - 3 >= 0"}, {ranged, "x >= 2", "0 /-; 1 /- >0", "-x + 1 >= 0; x + 1 >= 0; -x + 2 >= 0; -x >= 0"}, {swap, "x < y; x >= 5", "0 /+-; 0 /-+ >0", "x - y >= 0; -x + 4 >= 0; x >= 0; -x + 9 >= 0; -x + y >= 0; y - 5 >= 0"}, {"1;free;true;0 0>0 x = 3 | x < 1 & x > -4", "x = 7", "0 /-; 0 /+ >0", "x - 8 >= 0; -x + 6 >= 0; x - 3 = 0; -x >= 0; x + 3 >= 0"}, {"2;free;true;0 0>1 x < 9 / x := x + 1", "x >= 3", "0 /+; 0 /+ >-1", "x - 9 >= 0"}, {"1;0..3;true;0 0>0 x != 2 / x := x + 1", "x >= 3", "0 /+; 0 /- >-1", "-x + 2 >= 0; x - 2 = 0; -x - 2 >= 0"},
		// predicates that are there already, the same relation in several conditions and
		// several times in one
		{counter, "x >= 0; x >= 1; x >= 2", "0 /+++; 0 /+++; 0 /+++ >0 0", "x + 1 >= 0; x + 2 >= 0"}, {counter, "x >= 2", "0 /+; 0 /+ >0", "x - 1 >= 0"}, {"1;free;true;0 0>0", "x >= 2", "0 /+; 0 /+; 0 /+; 0 /+ >0 0 0", ""}, {"1;free;true;0 0>0 x > 4 & (x > 4 | x < 9)", "x >= 2", "0 /+; 0 /+; 0 /+ >0 0", "x - 5 >= 0; -x + 8 >= 0"}, {"1;free;true;0 0>0 / x := -x", "x >= 2", "0 /+; 0 /+; 0 /+; 0 /+ >0 0 0", "-x - 2 >= 0"}, {counter, "2*x >= 4", "0 /+; 0 /+ >0", "x - 2 >= 0; x - 1 >= 0"}, {counter, "x >= 2; x >= 2; 2*x >= 4", "0 /+++; 0 /+++ >0", "x - 1 >= 0"},
		// an Or in which a relation comes to hold always
		{"1;free;true;0 0>0 x < 7 | y < 7 & x > 1 / x := x + 1;0 0>0 / x := 3", "x >= 2", "0 /+; 0 /+; 0 /+ >0 0", "-x + 6 >= 0; -y + 6 >= 0; x - 1 >= 0; -x + 5 >= 0; x >= 0"}, {"1;free;true;0 0>0 x < 7 | y < 7 & x > 1 / x := x + 1;0 0>0 / x := 3", "x >= 2", "0 /+; 0 /+; 0 /+ >1 0", "-x + 6 >= 0; -y + 6 >= 0; x - 1 >= 0"}, {"1;free;true;0 0>0 x < 7 & y = 7 / x := x + 1;0 0>0 y = 4 / x := 9", "", "0 /; 0 /; 0 / >1 0", "-x + 6 >= 0; y - 7 = 0"}, {"1;free;true;0 0>0 x < 7 & y = 7 / x := x + 1;0 0>0 y = 4 / x := 3", "", "0 /; 0 /; 0 / >1 0", "-x + 6 >= 0; y - 7 = 0; y - 4 = 0"},
		// equal kids of an And, of which each is an Or
		{"1;free free;true;0 0>0 x < y | x > 5", "", "0 /; 0 /; 0 / >0 0", "-x + y - 1 >= 0; x - 6 >= 0"}, {"1;free free;true;0 0>0 x < y | x > 5 / x := x + 1", "", "0 /; 0 /; 0 / >0 0", "-x + y - 1 >= 0; x - 6 >= 0; -x + y - 2 >= 0; x - 5 >= 0"}, {"1;free free;true;0 0>0 (x < y | x > 5) & (x < y | x > 5 & y > 5) & (x < y | x > 5) / y := y - 1", "", "0 /; 0 /; 0 / >0 0", "-x + y - 1 >= 0; x - 6 >= 0; y - 6 >= 0; -x + y - 2 >= 0; y - 7 >= 0"},
		// nothing
		{counter, "x >= 2", "", ""}, {counter, "x >= 2", ">0", ""}, {counter, "x >= 2", "0 /+ >0", ""}, {counter, "x >= 2", "0 /-", "-x + 1 >= 0"}, {counter, "", "0 /; 0 / >0", ""}, {counter, "", "0 /; 0 / >1", "x - 4 >= 0"}, {counter, "x >= 2", "0 /; 0 / >0", ""}, {counter, "0 >= 0; 0 = 1", "0 /--; 0 /++ >0", ""}, {counter, "x >= 2", "0 /+; 0 /-; 0 /- >9 0", "-x + 1 >= 0; -x >= 0"}, {";;true", "", "/; / >-1", ""}, {counter, "x = 0", "0 /+; 0 /+ >9", ""},
	} {
		s, ps, p := system(x.system), preds(x.preds), pathOf(x.path)
		fresh := expectNew(t, s, ps, p)
		expect(t, x.path+" for "+x.preds+" on "+x.system, toldRels(fresh), x.want)
	}
}

// TestP24_3Limits: as many predicates as MaxPreds, fewer and more.
func TestP24_3Limits(t *testing.T) {
	s := system(counter)
	for _, x := range []struct{ before, states, want int }{
		{0, 40, 0}, {1, 1, 0}, {1, 2, 1}, {1, 24, 23}, {1, 25, 23}, {1, 40, 23}, {1, 23, 22}, {22, 2, 1}, {22, 3, 2}, {22, 4, 2}, {22, 1, 0}, {23, 1, 0}, {23, 2, 1}, {23, 3, 1}, {24, 1, 0}, {24, 2, 0}, {24, 30, 0}, {25, 2, 0}, {30, 9, 0}, {100, 9, 0},
	} {
		var ps []api.Rel
		for i := range x.before {
			ps = append(ps, preds(fmt.Sprint("x >= ", i))[0])
		}
		at := abstr.Abs{Locs: []int{0}, Bits: slices.Repeat([]bool{true}, x.before)}
		p := lasso.Path{States: slices.Repeat([]abstr.Abs{at}, x.states), Acts: make([]int, x.states-1)}
		fresh := expectNew(t, s, ps, p)
		var want []string
		for i := range x.want {
			want = append(want, fmt.Sprintf("x + %d >= 0", i+1))
		}
		expect(t, fmt.Sprintf("%+v", x), toldRels(fresh), strings.Join(want, "; "))
	}
	// a condition of which only some relations are left out
	wide := system("1;free;true;0 0>0 x < 9 & x != 4 & x > -9")
	ps := make([]api.Rel, 21)
	for i := range ps {
		ps[i] = preds(fmt.Sprint("y >= ", i))[0]
	}
	for n, want := range []string{"-x + 8 >= 0; x - 5 >= 0; -x + 3 >= 0; x + 8 >= 0", "-x + 8 >= 0; x - 5 >= 0; -x + 3 >= 0", "-x + 8 >= 0; x - 5 >= 0", "-x + 8 >= 0", ""} {
		old := append(ps[:20:20], ps[:n]...)
		expect(t, fmt.Sprint(len(old), " predicates"), toldRels(expectNew(t, wide, old, pathOf("0 /; 0 / >0"))), want)
	}
	// the old ones are in the form of results, too, and in new memory
	for _, n := range []int{1, 24, 30} {
		var old []api.Rel
		for range n {
			old = append(old, api.Rel{T: api.Term{Parts: []api.Part{{V: 1, C: zint.Of(2)}, {V: 0, C: zint.Of(3)}, {V: 1, C: zint.Of(1)}}}})
		}
		for _, path := range []string{"", "0 /+", "0 /-; 0 / >0"} {
			expectNew(t, s, old, pathOf(path))
			all, _ := refine.New(s, old, pathOf(path))
			all[0].T.Parts[0].C.Abs[0] = 99
			if old[0].T.Parts[1].C.Abs[0] == 99 {
				t.Error("the memory of a predicate")
			}
		}
	}
	if api.MaxPreds != 24 {
		t.Error("this test is about 24 predicates")
	}
}

// TestP24_1NewByWords: New for paths of all sorts, and for predicates of which it has
// returned the last ones itself.
func TestP24_1NewByWords(t *testing.T) {
	r := rand.New(rand.NewSource(242))
	counts := map[int]int{}
	for range 3000 {
		s := randomSystem(r, r.Intn(3) > 0, r.Intn(2))
		ps := randomPreds(r, len(s.Vars)+r.Intn(2), one(r, 3, 3, 3, 20))
		for range 6 {
			fresh := expectNew(t, s, ps, randomPath(r, s, ps))
			counts[min(len(fresh), 5)]++
			ps = append(ps, fresh...)
		}
		if len(ps) >= api.MaxPreds {
			counts[-1]++
		}
	}
	if counts[0] < 1000 || counts[1] < 500 || counts[2] < 500 || counts[5] < 200 || counts[-1] < 10 {
		t.Errorf("%v", counts)
	}
}

// TestP24_1NewLong: a path with as many states as a lasso can have whose conditions all
// say the same.
func TestP24_1NewLong(t *testing.T) {
	s := system("2;-9..9 free;x = 0;0 0>1 x != 5 / x := -x;0 1>0 x < y | x > 3;0 0>0 / y := *")
	ps := preds("x >= 2; y >= 5")
	p := lasso.Path{}
	for i := range 4096 {
		p.States = append(p.States, abstract([]string{"0 /-+", "1 /--", "0 /+-"}[i%3]))
		p.Acts = append(p.Acts, []int{0, 1, 2}[i%3])
	}
	all, more := refine.New(s, ps, p)
	short := lasso.Path{States: p.States[4096-30:], Acts: p.Acts[4096-30:]}
	want := newByWords(s, ps, short)
	expect(t, "a long path", toldRels(all), toldRels(want))
	if len(all) >= api.MaxPreds || !more {
		t.Errorf("%d predicates", len(all))
	}
	p.Acts = slices.Repeat([]int{-1}, 4095)
	all, _ = refine.New(s, ps, p)
	expect(t, "a long path of a stuck state", toldRels(all), toldRels(newByWords(s, ps, lasso.Path{States: p.States[4096-30:], Acts: p.Acts[:29]})))
	s = system("1;free;true;0 0>0")
	p = lasso.Path{States: slices.Repeat([]abstr.Abs{abstract("0 /+")}, 1000), Acts: make([]int, 999)}
	if got := refine.Conditions(s, preds("x >= 2"), p); len(got) != 1000 {
		t.Errorf("%d conditions", len(got))
	} else {
		expectForm(t, "the first one", logic.All(got[0].Kids[0], got[1]), "x >= 2")
	}
}
