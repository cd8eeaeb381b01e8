package wp_test

import (
	"fmt"
	"math"
	"math/rand"
	"slices"
	"testing"

	"plumbline/api"
	"plumbline/kripke"
	"plumbline/logic"
	"plumbline/wp"
)

// TestP20_1Pre: systems with acts, the number of one, a formula, and its precondition.
func TestP20_1Pre(t *testing.T) {
	for _, x := range []struct {
		system string
		act    int
		f      string
		want   string
	}{
		// the document's example
		{"2;0..3;true;0 0>1 / x := x + 1", 0, "x >= 3", "x + 1 >= 3 & x + 1 >= 0 & x + 1 <= 3"},
		{"2;free;true;0 0>1 / x := x + 1", 0, "x >= 3", "x >= 2"}, {"2;free;true;0 0>1 x < 7", 0, "x >= 3", "x >= 3 & x < 7"}, {"2;free free;true;0 0>1 / x := y, y := x", 0, "x < y", "y < x"}, {"2;free free;true;0 0>1 / y := x + y, x := 2*y", 0, "x < y + 1", "2*y < x + y + 1"}, {"2;free;true;0 0>1 / x := 1, x := 2", 0, "x = 1", "true"}, {"2;free;true;0 0>1 / x := 2, x := 1, x := *", 0, "x = 1", "false"}, {"2;free;true;0 0>1 / x := 3", 0, "!(x = 1 | x > 7)", "true"}, {"2;free;true;0 0>1 / x := 2*x", 0, "!(x = 2 | x > 7)", "x != 1 & 2*x <= 7"},
		{"2;;true;0 0>1", 0, "true", "true"}, {"2;;true;0 0>1", 0, "false", "false"}, {"2;;true;0 0>1 false", 0, "true", "false"}, {"2;0..3;true;0 0>1", 0, "true", "x >= 0 & x <= 3"}, {"2;3..2;true;0 0>1 / x := *", 0, "true", "false"},
		// relations with a variable with Any, also denied ones
		{"2;free;true;0 0>1 / x := *", 0, "x = 3", "true"}, {"2;free;true;0 0>1 / x := *", 0, "!(x = 3)", "true"}, {"2;free;true;0 0>1 / x := *", 0, "x < x", "false"}, {"2;free;true;0 0>1 / x := *", 0, "2*x = 3", "false"}, {"2;free;true;0 0>1 / x := *", 0, "x < 3 & x > 5", "true"}, {"2;free free;true;0 0>1 / x := *", 0, "x < y & y > 2", "y > 2"}, {"2;free free;true;0 0>1 / x := *", 0, "x < y | y > 2", "true"}, {"2;free free;true;0 0>1 / x := *", 0, "!(x < y | y > 2)", "y <= 2"}, {"2;free free;true;0 0>1 / x := *", 0, "!(x < y & y > 2)", "true"}, {"2;free free;true;0 0>1 / x := *, y := x", 0, "y > 2", "x > 2"}, {"2;free free;true;0 0>1 / x := *, y := x", 0, "x > 2 & y > 2", "x > 2"}, {"2;free free;true;0 0>1 / x := *, y := *", 0, "x > 2 & y > 2", "true"}, {"2;free free;true;0 0>1 / x := 1, x := *, y := *", 0, "x > y & x < 1", "false"}, {"2;0..3 free;true;0 0>1 y = 1 / x := *", 0, "x > 3", "y = 1"}, {"2;free free;true;0 0>1 / x := *, x := 1", 0, "x = 2 & y = 2", "y = 2"}, {"2;free free;true;0 0>1 / x := *", 0, "x + y > x", "y > 0"},
		// variables beyond the system's stay
		{"2;free;true;0 0>1 / x := 2", 0, "x < y & z = 1", "2 < x1 & x2 = 1"}, {"2;free;true;0 0>1 / x := *", 0, "x < y & z = 1", "x2 = 1"}, {"2;free;true;0 0>1 / x := z", 0, "x < y", "x2 < x1"}, {"2;;true;0 0>1", 0, "true | x = 1", "true"},
		// where it can start does not matter
		{"2;free;true;0 1>0 / x := 2", 0, "x < 1", "false"}, {"2;free;true;0 0>1;0 1>0 / x := 2", 1, "x > 1", "true"},
		// acts that are not sound
		{"2;free;true;0 0>1", 1, "true", "false"}, {"2;free;true;0 0>1", -2, "true", "false"}, {"2;free;true;0 0>1", math.MinInt, "true", "false"}, {"2;free;true;0 0>1", math.MaxInt, "true", "false"}, {"2;free;true;0 0>2", 0, "true", "false"}, {"2;free;true;0 -1>1", 0, "true", "false"}, {"2;free;true;1 0>1", 0, "true", "false"}, {"2;free;true;0 0>1 / 1 := 1", 0, "true", "false"}, {"2;free;true;0 0>1 / x := 1, -1 := *", 0, "true", "false"}, {";;true;0 0>0", 0, "true", "false"},
	} {
		s := system(x.system)
		f := cond(x.f, names)
		expectForm(t, fmt.Sprint("Pre of ", x.f, " for ", x.act, " of ", x.system), s, wp.Pre(s, x.act, f), x.want)
	}
}

// TestP20_1PreOfStutter: an And whose only kid is f, also if f has what does not count.
func TestP20_1PreOfStutter(t *testing.T) {
	for _, text := range []string{"true", "false", "x < 3", "!(x = 1 & y < 2)", "x < 1 & y < 1", "x < 1 | false"} {
		for _, s := range []api.Sys{{}, system("2;3..2;true;0 0>1 / x := 1")} {
			f := cond(text, names)
			if got := wp.Pre(s, -1, f); got.Kind != api.And || len(got.Kids) != 1 || !logic.Same(got.Kids[0], f) {
				t.Errorf("Pre of %s: %s", text, logic.Text(got, names))
			}
		}
	}
	odd := api.Form{Kind: api.Not, Kids: []api.Form{{Kind: 9}, {}}}
	got := wp.Pre(api.Sys{}, -1, odd)
	expect(t, "Pre of an odd formula", logic.Text(got, nil), "(!(false))")
	if len(got.Kids) != 1 || len(got.Kids[0].Kids) != 1 {
		t.Errorf("%v", got)
	}
}

func TestP20_1PreByWords(t *testing.T) {
	r := rand.New(rand.NewSource(21))
	held := 0
	for range 3000 {
		s := randomSystem(r, r.Intn(2))
		f := randomForm(r, len(s.Vars)+r.Intn(2), r.Intn(4))
		for act := range s.Acts {
			pre := wp.Pre(s, act, f)
			for _, vals := range lists(len(s.Vars)+r.Intn(2), 3) {
				want := preHolds(s, act, f, vals)
				if logic.Holds(pre, vals) != want {
					t.Fatalf("Pre of %s for %d of %v: %s at %v is not %v", logic.Text(f, nil), act, s, logic.Text(pre, nil), vals, want)
				}
				if want {
					held++
				}
			}
		}
	}
	if held < 10000 {
		t.Errorf("preconditions hold at only %d values", held)
	}
}

func hasAny(a api.Act) bool {
	return slices.ContainsFunc(a.Moves, func(m api.Move) bool { return m.Any })
}

// TestP20_3Pre: preconditions and where acts lead to, for all states with small values.
func TestP20_3Pre(t *testing.T) {
	r := rand.New(rand.NewSource(22))
	before, after := 0, 0
	for range 1500 {
		s := randomSystem(r, r.Intn(2))
		f := randomForm(r, len(s.Vars)+r.Intn(2), r.Intn(4))
		for _, x := range states(s, 3) {
			if !kripke.Fits(s, x) {
				continue
			}
			for act := -1; act < len(s.Acts); act++ {
				pre := logic.Holds(wp.Pre(s, act, f), x.Vals)
				for _, picks := range lists(2, 2) {
					if y, ok := kripke.Go(s, x, act, picks); ok && logic.Holds(f, y.Vals) {
						before++
						if !pre {
							t.Fatalf("%d of %v leads from %v to %s, but Pre does not hold", act, s, x, logic.Text(f, nil))
						}
					}
				}
				if _, ok := wp.Places(s, x.Locs, act); !ok || !pre || act < 0 || hasAny(s.Acts[act]) {
					continue
				}
				after++
				if y, ok := kripke.Go(s, x, act, nil); !ok || !logic.Holds(f, y.Vals) {
					t.Fatalf("%d of %v at %v: Pre holds, but not %s after it", act, s, x, logic.Text(f, nil))
				}
			}
		}
	}
	if before < 5000 || after < 1000 {
		t.Errorf("only %d, and %d", before, after)
	}
}

// TestP20_3PreOfStutter: f holds before and after the step -1, or neither.
func TestP20_3PreOfStutter(t *testing.T) {
	s := system("2;0..3;true;0 0>1 x < 2")
	for _, vals := range lists(1, 4) {
		for _, text := range []string{"x < 2", "x = 3 | x = 0", "x != 1"} {
			f := cond(text, names)
			if logic.Holds(wp.Pre(s, -1, f), vals) != logic.Holds(f, vals) {
				t.Errorf("Pre of %s at %v", text, vals)
			}
		}
	}
}

// TestP20_1PreOfLarge: formulas with many levels and with many kids.
func TestP20_1PreOfLarge(t *testing.T) {
	s := system("1;free;true;0 0>0 / x := x + 1")
	deep := cond("x > 2", names)
	for range 1 << 16 {
		deep = api.Form{Kind: api.Not, Kids: []api.Form{deep}}
	}
	wide := api.Form{Kind: api.Or}
	for range 1 << 16 {
		wide.Kids = append(wide.Kids, cond("x > 2 & x < 9", names))
	}
	for _, f := range []api.Form{deep, wide} {
		pre := wp.Pre(s, 0, f)
		for _, vals := range lists(1, 4) {
			if logic.Holds(pre, vals) != logic.Holds(cond("x > 1", names), vals) {
				t.Errorf("Pre of a large formula at %v", vals)
			}
		}
	}
}
