package lasso_test

import (
	"fmt"
	"math"
	"math/rand"
	"slices"
	"strings"
	"testing"

	"plumbline/abstr"
	"plumbline/api"
	"plumbline/dfs"
	"plumbline/kripke"
	"plumbline/lasso"
	"plumbline/logic"
	"plumbline/wp"
	"plumbline/zint"
)

const (
	counter = "1;free;x = 0;0 0>0 / x := x + 1"
	toggle  = "1;free;x = 0;0 0>0 / x := 1 - x"
	// the values are 5 0, 0 3, 3 0, 0 3, 3 0 and so on
	later = "1;free free;x = 5 & y = 0;0 0>0 / x := y, y := 3 - y"
	two   = "2;free;x = 0;0 0>1 / x := x + 1;0 1>0 x < 9 / x := *;0 1>1 / x := x"
)

func TestP23_1Check(t *testing.T) {
	for _, x := range []struct {
		system, preds, lasso string
		rounds               int
		want                 string
	}{
		// the document's example
		{counter, "x >= 2", "| 0 /- >0", 1, "3 0 /-; 0 /- by [0]"}, {counter, "x >= 2", "| 0 /- >0", 2, "2 0 /-; 0 /-; 0 /- by [0 0]"}, {counter, "x >= 2", "| 0 /- >0", 8, "2 0 /-; 0 /-; 0 /- by [0 0]"},
		{counter, "x >= 5", "| 0 /- >0", 4, "3 0 /-; 0 /-; 0 /-; 0 /-; 0 /- by [0 0 0 0]"}, {counter, "x >= 5", "| 0 /- >0", 5, "2 0 /-; 0 /-; 0 /-; 0 /-; 0 /-; 0 /- by [0 0 0 0 0]"}, {counter, "x >= 2", "| 0 /+ >0", 8, "2 0 /+; 0 /+ by [0]"}, {counter, "x >= 2", "0 /- >0; 0 /- >0 | 0 /+ >0", 2, "3 0 /-; 0 /-; 0 /+; 0 /+; 0 /+ by [0 0 0 0]"}, {counter, "x >= 2", "0 /- >0; 0 /- >0; 0 /- >0 | 0 /+ >0", 2, "2 0 /-; 0 /-; 0 /-; 0 /+; 0 /+ by [0 0 0 0]"}, {counter, "", "| 0 / >0; 0 / >0", 2, "3 0 /; 0 /; 0 /; 0 /; 0 / by [0 0 0 0]"},
		// the rounds at whose ends the values are the same
		{toggle, "x >= 5", "| 0 /- >0", 1, "3 0 /-; 0 /- by [0]"}, {toggle, "x >= 5", "| 0 /- >0", 2, "1 rounds 0 to 2"}, {toggle, "x >= 5", "| 0 /- >0; 0 /- >0", 1, "1 rounds 0 to 1"}, {toggle, "x >= 1", "0 /- >0; 0 /+ >0 | 0 /- >0; 0 /+ >0", 4, "1 rounds 0 to 1"}, {toggle, "x >= 1", "| 0 /- >0", 4, "2 0 /-; 0 /- by [0]"}, {toggle, "", "| 0 / >0; 0 / >0; 0 / >0", 4, "1 rounds 0 to 2"},
		{later, "", "| 0 / >0", 2, "3 0 /; 0 /; 0 / by [0 0]"}, {later, "", "| 0 / >0", 3, "1 rounds 1 to 3"}, {later, "", "| 0 / >0", 8, "1 rounds 1 to 3"}, {later, "x >= 5", "| 0 /+ >0", 8, "2 0 /+; 0 /+ by [0]"}, {later, "x >= 5", "0 /+ >0 | 0 /- >0", 8, "1 rounds 0 to 2"}, {later, "x >= 5; y = 3", "0 /+- >0 | 0 /-+ >0; 0 /-- >0", 8, "1 rounds 0 to 1"},
		// any values: the last round first
		{"1;free;x = 0;0 0>0 / x := *", "", "| 0 / >0", 8, "1 rounds 0 to 1"}, {"1;free;x = 0;0 0>0 / x := *", "x >= 7", "| 0 /- >0; 0 /+ >0", 8, "1 rounds 0 to 1"}, {"1;free;x >= 0;0 0>0 x >= 0 / x := x - 1;0 0>0 x < 0 / x := *", "x >= 0", "0 /+ >0 | 0 /+ >0; 0 /- >1", 8, "1 rounds 0 to 1"}, {"1;free free;x = 0;0 0>0 y = 1 / x := 4, y := *;0 0>0 y = 2 / y := *", "x = 4", "| 0 /- >0; 0 /+ >1; 0 /+ >1", 3, "2 0 /-; 0 /+; 0 /+; 0 /- by [0 1 1]"},
		{two, "", "| 0 / >0; 1 / >1", 3, "1 rounds 0 to 1"}, {two, "x >= 9", "| 0 /- >0; 1 /- >1", 3, "1 rounds 0 to 1"}, {two, "x >= 9", "| 0 /- >0; 1 /+ >1", 3, "2 0 /-; 1 /+; 0 /- by [0 1]"}, {two, "x >= 9", "0 /- >0; 1 /- >1; 0 /+ >0 | 1 /+ >2", 1, "1 rounds 0 to 1"}, {two, "x > 9", "0 /- >0; 1 /- >1; 0 /- >0 | 1 /+ >2", 3, "1 rounds 0 to 1"}, {two, "x > 10", "0 /- >0; 1 /- >1; 0 /- >0; 1 /+ >1 | 0 /- >0; 1 /+ >1", 3, "2 0 /-; 1 /-; 0 /-; 1 /+; 0 /-; 1 /+; 0 /- by [0 1 0 1 0 1]"},
		// the act -1
		{"1;0..3;x = 3;0 0>0 / x := x + 1", "", "| 0 / >-1", 8, "1 rounds 0 to 1"}, {"1;0..3;x = 2;0 0>0 / x := x + 1", "", "| 0 / >-1", 8, "2 0 /; 0 / by [-1]"}, {"1;0..3;x = 2;0 0>0 / x := x + 1", "", "0 / >0 | 0 / >-1; 0 / >-1", 8, "1 rounds 0 to 1"}, {"2;;true;0 0>1", "", "0 / >0 | 1 / >-1", 8, "1 rounds 0 to 1"}, {"2;;true;0 0>1", "", "| 0 / >-1", 8, "2 0 /; 0 / by [-1]"},
		// systems without processes, without variables, without acts
		{";;true", "", "| / >-1", 8, "1 rounds 0 to 1"}, {";;false", "", "| / >-1", 8, "2 /; / by [-1]"}, {";free;x > 4", "x > 6", "| /- >-1", 8, "1 rounds 0 to 1"}, {";free;x > 4", "x > 6; x = 9", "| /-+ >-1", 8, "2 /-+; /-+ by [-1]"}, {"1;;true;0 0>0;0 0>0 false", "", "| 0 / >0", 8, "1 rounds 0 to 1"}, {"1;;true;0 0>0;0 0>0 false", "", "| 0 / >1", 8, "2 0 /; 0 / by [1]"}, {"2 2;;true;0 0>1;1 0>1;1 1>0;0 1>0", "", "0 0 / >0 | 1 0 / >1; 1 1 / >2", 8, "1 rounds 0 to 1"}, {"1;free;x = 1", "", "| 0 / >0", 8, "2 0 /; 0 / by [0]"}, {"1;1..0;true", "", "| 0 / >-1", 8, "2 0 /; 0 / by [-1]"},
		// the same predicate twice, predicates that always and never hold, and without bits
		{toggle, "x >= 1; x >= 1", "| 0 /-- >0; 0 /++ >0", 8, "1 rounds 0 to 1"}, {toggle, "x >= 1; x >= 1", "| 0 /-- >0; 0 /+- >0", 8, "2 0 /--; 0 /+-; 0 /-- by [0 0]"}, {toggle, "0 >= 0; x < x", "| 0 /+- >0", 8, "1 rounds 0 to 2"}, {toggle, "0 >= 0; x < x", "| 0 /-- >0", 8, "2 0 /--; 0 /-- by [0]"},
		// no cycle, too few and too many acts
		{counter, "", "", 3, "3  by []"}, {counter, "", "0 / >0 |", 3, "3  by []"}, {counter, "", "| 0 / >", 3, "3  by []"}, {counter, "", "| 0 / >0 0", 3, "3  by []"}, {counter, "", "0 / >0 | 0 / >", 3, "3  by []"}, {counter, "", "0 / >0 0 | 0 / >", 1, "3 0 /; 0 /; 0 / by [0 0]"}, {"1;free;false;0 0>0", "", "", 3, "3  by []"},
	} {
		got, _ := expectAnswer(t, system(x.system), preds(x.preds), lassoOf(x.lasso), x.rounds)
		expect(t, fmt.Sprint(x.rounds, " rounds of ", x.lasso, " on ", x.system), got, x.want)
	}
}

// TestP23_1Rounds: how many rounds there are.
func TestP23_1Rounds(t *testing.T) {
	for _, x := range []struct{ rounds, want int }{{1, 1}, {2, 2}, {7, 7}, {8, 8}, {9, 8}, {100, 8}, {math.MaxInt, 8}, {0, 1}, {-1, 1}, {math.MinInt, 1}} {
		l := lassoOf("0 / >0 | 0 / >0; 0 / >0")
		a := lasso.Check(system(counter), nil, l, x.rounds, plenty)
		expect(t, fmt.Sprint(x.rounds, " rounds"), fmt.Sprint(a.State, " ", toldPath(a.Path)), "3 "+toldPath(pathOf(l, x.want)))
	}
}

// TestP23_2Unfit: lassos that are not those of steps. Where a formula holds although the
// locations do not belong together, or although predicates have no bits or are about other
// variables, there is no run.
func TestP23_2Unfit(t *testing.T) {
	const moves = "2;free;x = 0;0 0>1;0 1>0;0 1>1;0 0>0"
	for _, x := range []struct{ system, preds, lasso, want string }{
		{moves, "", "| 0 / >0; 1 / >1", "1 rounds 0 to 1"},
		// a first state that is no first one
		{moves, "", "| 1 / >1; 0 / >0", "3 1 /; 0 /; 1 /; 0 /; 1 / by [1 0 1 0]"}, {moves, "", "| 1 / >2", "3 1 /; 1 /; 1 / by [2 2]"}, {moves, "x > 0", "| 0 /+ >3", "2 0 /+; 0 /+ by [3]"}, {moves, "", "| / >3", "2 /; / by [3]"}, {moves, "", "| 0 0 / >3", "2 0 0 /; 0 0 / by [3]"}, {"0 1;;true", "", "| 0 0 / >-1", "3 0 0 /; 0 0 /; 0 0 / by [-1 -1]"}, {"1 1;;true", "", "| 0 0 / >-1", "1 rounds 0 to 1"}, {"1 1;;true", "", "| 0 / >-1", "3 0 /; 0 /; 0 / by [-1 -1]"}, {"2;;true", "", "| 1 / >-1", "3 1 /; 1 /; 1 / by [-1 -1]"},
		// acts that lead elsewhere, start elsewhere, or do not exist
		{moves, "", "0 / >0 | 0 / >3", "3 0 /; 0 /; 0 /; 0 / by [0 3 3]"}, {moves, "", "| 0 / >0; 1 / >2", "3 0 /; 1 /; 0 /; 1 /; 0 / by [0 2 0 2]"}, {moves, "", "0 / >3; 1 / >2 | 1 / >2", "3 0 /; 1 /; 1 /; 1 /; 1 / by [3 2 2 2]"}, {moves, "", "0 / >1 | 1 / >2", "2 0 /; 1 /; 1 / by [1 2]"}, {moves, "", "| 0 / >4", "2 0 /; 0 / by [4]"}, {moves, "", "| 0 / >-2", "2 0 /; 0 / by [-2]"}, {moves, "", "| 0 / >9223372036854775807", "2 0 /; 0 / by [9223372036854775807]"}, {moves, "", "| 0 / >-1", "2 0 /; 0 / by [-1]"}, {"2;;true", "", "0 / >-1 | 1 / >-1", "3 0 /; 1 /; 1 /; 1 / by [-1 -1 -1]"},
		// predicates without bits, and bits without predicates
		{moves, "x > 4", "| 0 / >3", "3 0 /; 0 /; 0 / by [3 3]"}, {moves, "x > 4; x > 5", "0 /-- >3 | 0 /- >3", "3 0 /--; 0 /-; 0 /-; 0 /- by [3 3 3]"}, {moves, "x > 4", "| 0 /-- >3", "3 0 /--; 0 /--; 0 /-- by [3 3]"}, {moves, "", "| 0 /+ >3", "3 0 /+; 0 /+; 0 /+ by [3 3]"}, {moves, "x > 4; x > 5", "| 0 /+ >3", "2 0 /+; 0 /+ by [3]"},
		// variables that the system does not have
		{"1;;true;0 0>0", "x > 4", "| 0 /- >0", "1 rounds 0 to 1"}, {"1;;true;0 0>0", "x > 4", "| 0 /+ >0", "3 0 /+; 0 /+; 0 /+ by [0 0]"}, {"1;;x > 4;0 0>0", "", "| 0 / >0", "3 0 /; 0 /; 0 / by [0 0]"}, {"1;;true;0 0>0 x > 4", "", "| 0 / >0", "3 0 /; 0 /; 0 / by [0 0]"}, {"1;;true;0 0>0 x > 4", "", "| 0 / >-1", "1 rounds 0 to 1"}, {"1;;true;0 0>0 x <= 0", "", "| 0 / >-1", "3 0 /; 0 /; 0 / by [-1 -1]"}, {"1;free;x = 0;0 0>0 / x := z + 7", "", "| 0 / >0", "3 0 /; 0 /; 0 / by [0 0]"}, {"1;free;x = 0;0 0>0 / x := z", "", "| 0 / >0", "1 rounds 0 to 1"}, {"1;0..9;x = y;0 0>0 / x := *", "y > 2", "| 0 /- >0", "1 rounds 0 to 1"}, {"1;0..9;x = y;0 0>0 / x := *", "y > 2", "| 0 /+ >0", "3 0 /+; 0 /+; 0 /+ by [0 0]"},
	} {
		got, _ := expectAnswer(t, system(x.system), preds(x.preds), lassoOf(x.lasso), 2)
		expect(t, x.lasso+" on "+x.system, got, x.want)
	}
}

// TestP23_1Limits: fuel at its limits.
func TestP23_1Limits(t *testing.T) {
	s, l := system(counter), lassoOf("| 0 / >0")
	_, q := checkByWords(s, nil, l, 2, plenty)
	all := plenty - q.left
	if all < 10 || q.count != 5 {
		t.Errorf("%d units for %d questions", all, q.count)
	}
	const path = "0 /; 0 /; 0 / by [0 0]"
	for _, x := range []struct {
		l           string
		fuel        int
		state, left int
		path        string
	}{
		{"| 0 / >0", 0, 4, 0, ""}, {"| 0 / >0", -1, 4, 0, ""}, {"| 0 / >0", math.MinInt, 4, 0, ""}, {"| 0 / >0", all - 1, 4, 0, ""}, {"| 0 / >0", all, 3, 0, path}, {"| 0 / >0", all + 1, 3, 1, path}, {"| 0 / >0", api.MaxFuel - 1, 3, api.MaxFuel - 1 - all, path}, {"| 0 / >0", api.MaxFuel, 3, api.MaxFuel - all, path}, {"| 0 / >0", api.MaxFuel + 1, 3, api.MaxFuel - all, path}, {"| 0 / >0", math.MaxInt, 3, api.MaxFuel - all, path},
		{"0 / >0 |", 0, 3, 0, " by []"}, {"0 / >0 |", -1, 3, 0, " by []"}, {"0 / >0 |", 7, 3, 7, " by []"}, {"| 0 / >0 0", 7, 3, 7, " by []"}, {"| 0 / >", math.MaxInt, 3, api.MaxFuel, " by []"}, {"", math.MinInt, 3, 0, " by []"},
	} {
		a := lasso.Check(s, nil, lassoOf(x.l), 2, x.fuel)
		want := fmt.Sprint(x.state, ", ", x.left, " left, ", x.path)
		expect(t, fmt.Sprint(x.l, " with ", x.fuel), toldAnswer(t, s, nil, l, a), want)
	}
	if lasso.Real != 1 || lasso.Dead != 2 || lasso.Open != 3 || lasso.Fuel != 4 {
		t.Error("the states of an answer")
	}
}

// longOf is a lasso with many states of a system that has one act, which leaves all
// values as they are.
func longOf(vars, loc, stem, cycle int) (api.Sys, dfs.Lasso) {
	s := system("2;;true;0 0>0;0 1>1")
	s.Vars = make([]string, vars)
	at := abstr.Abs{Locs: []int{loc}}
	return s, dfs.Lasso{Stem: slices.Repeat([]abstr.Abs{at}, stem), Cycle: slices.Repeat([]abstr.Abs{at}, cycle), Acts: slices.Repeat([]int{loc}, stem+cycle)}
}

// TestP23_1LongPaths: paths of 4096 states and of 65536 values, and of one more. If a
// question is asked with so little fuel, nothing is left.
func TestP23_1LongPaths(t *testing.T) {
	for _, x := range []struct {
		vars, stem, cycle, rounds, fuel int
		state                           int
		asked                           bool
	}{
		{0, 4094, 1, 1, 100, lasso.Real, true}, {0, 4095, 1, 1, 100, lasso.Fuel, false}, {0, 0, 4095, 3, 100, lasso.Real, true}, {0, 0, 4096, 3, 100, lasso.Fuel, false}, {0, 1 << 20, 1, 1, 100, lasso.Fuel, false}, {0, 0, 1 << 20, 8, 100, lasso.Fuel, false}, {0, 0, 4096, 1, 0, lasso.Fuel, false}, {1, 4095, 1, 1, 1 << 20, lasso.Fuel, false}, {1, 400, 100, 1, 1 << 20, lasso.Real, true}, {1, 4094, 1, 1, 1 << 20, lasso.Real, true},
		{1, 4094, 1, 1, 100, lasso.Fuel, true}, {1, 4095, 1, 1, 100, lasso.Fuel, false}, {16, 4000, 95, 8, 100, lasso.Fuel, true}, {16, 4000, 96, 8, 100, lasso.Fuel, false}, {17, 0, 3854, 1, 100, lasso.Fuel, true}, {17, 0, 3855, 1, 100, lasso.Fuel, false}, {1 << 15, 0, 1, 1, 100, lasso.Fuel, true}, {1<<15 + 1, 0, 1, 1, 100, lasso.Fuel, false}, {21845, 1, 1, 1, 100, lasso.Fuel, true}, {21846, 1, 1, 1, 100, lasso.Fuel, false}, {65536, 0, 1, 1, 100, lasso.Fuel, false}, {1 << 20, 0, 1, 1, 100, lasso.Fuel, false},
		// the first path is short enough
		{0, 4, 2000, 8, 100, lasso.Real, true}, {0, 90, 4000, 8, 100, lasso.Real, true},
	} {
		s, l := longOf(x.vars, 0, x.stem, x.cycle)
		a := lasso.Check(s, nil, l, x.rounds, x.fuel)
		if a.State != x.state || (a.Left == x.fuel) == x.asked && x.fuel > 0 || a.State == lasso.Fuel && x.asked && a.Left > 0 {
			t.Errorf("%+v: state %d, %d left", x, a.State, a.Left)
		}
		if len(a.Path.States) > 0 || a.State == lasso.Real && !isOf(s, nil, l, a.Run) {
			t.Errorf("%+v: no run of the lasso", x)
		}
	}
	// the first paths are short enough, and Open, since their first state is no first one;
	// with variables, no question is answered, since a predicate is about too large a one
	for _, x := range []struct {
		vars, stem, cycle, rounds int
		state                     int
	}{{0, 89, 2003, 2, lasso.Open}, {0, 90, 2003, 2, lasso.Fuel}, {0, 90, 2003, 8, lasso.Fuel}, {0, 90, 2003, 1, lasso.Open}, {0, 87, 1002, 4, lasso.Open}, {0, 88, 1002, 4, lasso.Fuel}, {0, 88, 1002, 3, lasso.Open}, {1 << 13, 0, 1, 7, lasso.Open}, {1 << 13, 0, 1, 8, lasso.Fuel}, {1 << 13, 1, 1, 6, lasso.Open}, {1 << 13, 1, 1, 7, lasso.Fuel}, {16, 87, 1002, 4, lasso.Open}, {16, 88, 1002, 4, lasso.Fuel}, {17, 0, 3854, 1, lasso.Open}, {17, 0, 1927, 2, lasso.Open}, {17, 1, 1927, 2, lasso.Fuel}} {
		s, l := longOf(x.vars, 1, x.stem, x.cycle)
		var ps []api.Rel
		if x.vars > 0 {
			ps = preds("far >= 0")
			for _, a := range [][]abstr.Abs{l.Stem, l.Cycle} {
				for i := range a {
					a[i].Bits = []bool{false}
				}
			}
		}
		a := lasso.Check(s, ps, l, x.rounds, plenty)
		if a.State != x.state || a.Left == 0 || a.Left == plenty || len(a.Run.Acts) > 0 {
			t.Errorf("%+v: state %d, %d left", x, a.State, a.Left)
		}
		if want := toldPath(pathOf(l, x.rounds)); a.State == lasso.Open && toldPath(a.Path) != want {
			t.Errorf("%+v: another path", x)
		}
	}
}

// hard is a system whose act 0 has a guard with 4096 lists, so that a question whose lists
// have no solution is not answered; from location 1 on, x is x0 and then 1 - x0.
func hard(init string) api.Sys {
	s := system("2;" + strings.Repeat("free ", 3) + ";" + init + ";0 0>1;0 1>1 / x := 1 - x")
	for v := 3; v < 13; v++ {
		s.Vars = append(s.Vars, "")
	}
	for v := 1; v < 13; v++ {
		s.Acts[0].Guard.Kids = append(s.Acts[0].Guard.Kids, logic.Deny(logic.Compare(api.Eq, api.Term{Parts: []api.Part{{V: v, C: zint.Of(1)}}}, api.Term{})))
	}
	s.Acts[0].Guard.Kind = api.And
	return s
}

// TestP23_1Unanswered: questions that Sat does not answer with all of its fuel: that about
// the path, and those about rounds at whose ends values are the same.
func TestP23_1Unanswered(t *testing.T) {
	for _, x := range []struct {
		s                   api.Sys
		preds, lasso        string
		rounds, count, open int
		want                string
		fuels               []int // beside what is consumed
	}{
		// a predicate about too large a variable: no question is answered
		{system(toggle), "far >= 0", "| 0 /- >0", 1, 2, 2, "3 0 /-; 0 /- by [0]", []int{-1, -40000, -40001, -79999, -80000}}, {system(toggle), "far >= 0", "| 0 /- >0", 2, 5, 5, "3 0 /-; 0 /-; 0 /- by [0 0]", []int{-1, 1, -160000}}, {system("1;free;far = 0;0 0>0"), "", "| 0 / >0", 2, 5, 5, "3 0 /; 0 /; 0 / by [0 0]", []int{-1, 1}},
		// only questions about equal values: the next one follows
		{hard("x = 0"), "", "0 / >0 | 1 / >1", 3, 5, 2, "1 rounds 0 to 2", nil},
		// the question about the path too
		{hard("x = 0"), "x = 0", "0 /+ >0 | 1 /+ >1", 1, 2, 2, "3 0 /+; 1 /+; 1 /+ by [0 1]", []int{-1}},
	} {
		ps, l := preds(x.preds), lassoOf(x.lasso)
		text, q := checkByWords(x.s, ps, l, x.rounds, plenty)
		check := func(fuel int) string { return toldAnswer(t, x.s, ps, l, lasso.Check(x.s, ps, l, x.rounds, fuel)) }
		expect(t, x.lasso+" for "+x.preds, check(plenty), text)
		if _, rest, _ := strings.Cut(text, " left, "); text[:1]+" "+rest != x.want || q.count != x.count || q.open != x.open {
			t.Errorf("%s for %s: %s, %d of %d questions without an answer", x.lasso, x.preds, text, q.open, q.count)
		}
		used := plenty - q.left
		if used < x.open*40000 || used >= x.open*40000+20000*(x.count-x.open)+1 {
			t.Errorf("%s for %s: %d consumed", x.lasso, x.preds, used)
		}
		for _, more := range x.fuels {
			want, _ := checkByWords(x.s, ps, l, x.rounds, used+more)
			if more < 0 && want != nothing {
				t.Errorf("%s for %s with %d of %d: %s", x.lasso, x.preds, used+more, used, want)
			}
			expect(t, fmt.Sprint(x.lasso, " for ", x.preds, " with ", used+more), check(used+more), want)
		}
	}
}

// TestP23_1Says: the formula of a path, by the document's words.
func TestP23_1Says(t *testing.T) {
	for _, x := range []struct {
		system, preds, states, want string
		acts                        []int
	}{
		{counter, "x >= 2", "0 /-; 0 /-; 0 /+", "v0 = 0 & v0 < 2 & v1 < 2 & v2 >= 2 & v1 = v0 + 1 & v2 = v1 + 1", []int{0, 0}}, {counter, "x >= 2", "0 /+", "v0 = 0 & v0 >= 2", nil}, {counter, "", "0 /", "v0 = 0", nil}, {counter, "", "", "v0 = 0", nil}, {counter, "x >= 2", "", "v0 = 0", []int{0, 5, 7}}, {"1;0..3;x > 1;0 0>0 / x := x + 1", "", "0 /; 0 /", "v0 >= 0 & v0 <= 3 & v0 > 1 & v1 = v0 + 1 & v1 >= 0 & v1 <= 3", []int{0}},
		{"2;free free;x < y;0 0>1 x > 0 / x := y;0 1>0 / y := *", "x = y", "0 /-; 1 /+; 0 /-", "v0 < v1 & v0 != v1 & v2 = v3 & v4 != v5 & v0 > 0 & v2 = v1 & v3 = v1 & v4 = v2", []int{0, 1}},
		// fewer Acts, and Acts from the last state on
		{counter, "x >= 2", "0 /-; 0 /-; 0 /+", "v0 = 0 & v0 < 2 & v1 < 2 & v2 >= 2 & v1 = v0 + 1", []int{0}}, {counter, "x >= 2", "0 /-; 0 /-; 0 /+", "v0 = 0 & v0 < 2 & v1 < 2 & v2 >= 2", nil}, {counter, "x >= 2", "0 /-; 0 /+", "v0 = 0 & v0 < 2 & v1 >= 2 & v1 = v0 + 1", []int{0, 0, 7, 0}}, {counter, "x >= 2", "0 /-", "v0 = 0 & v0 < 2", []int{9}},
		// acts that cannot start, and the act -1
		{counter, "", "0 /; 0 /", "false", []int{1}}, {counter, "", "1 /; 0 /", "false", []int{0}}, {counter, "", "0 /; 1 /", "v0 = 0 & v1 = v0 + 1", []int{0}}, {counter, "", "/; 0 /", "false", []int{0}}, {counter, "", "0 /; 0 /", "false", []int{-1}}, {counter, "", "1 /; 0 /; 0 /", "v0 = 0 & v1 = v0", []int{-1}}, {"1;free;true;0 0>0 x > 5", "", "0 /; 0 /; 0 /", "v0 <= 5 & v1 = v0 & v1 > 5 & v2 = v1", []int{-1, 0}},
		// predicates without bits, and bits without predicates
		{counter, "x >= 2; x >= 3", "0 /-; 0 /; 0 /+++", "v0 = 0 & v0 < 2 & v2 >= 2 & v2 >= 3", nil}, {counter, "", "0 /-; 0 /+", "v0 = 0", nil},
		{";;true", "", "/; /", "true", []int{-1}}, {";;false", "", "/; /", "false", []int{-1}}, {"1;;true;0 0>0", "", "0 /; 0 /", "true", []int{0}},
	} {
		s := system(x.system)
		p := lasso.Path{Acts: x.acts}
		for _, part := range strings.Split(x.states, ";") {
			if part != "" {
				p.States = append(p.States, abstract(strings.TrimSpace(part)))
			}
		}
		got := lasso.Says(s, preds(x.preds), p)
		expectForm(t, x.states+" on "+x.system, got, x.want)
		if want := saysByWords(s, preds(x.preds), p); !logic.Same(logic.Flat(got), logic.Flat(want)) {
			t.Errorf("%s on %s: %s, not %s", x.states, x.system, logic.Text(got, nil), logic.Text(want, nil))
		}
	}
}

// TestP23_1SaysByValues: the formula of a path holds at lists of values exactly if they
// are those of the document's words, by layer 18.
func TestP23_1SaysByValues(t *testing.T) {
	r := rand.New(rand.NewSource(231))
	counts := map[bool]int{}
	for range 400 {
		s := randomSystem(r, r.Intn(2) == 0)
		if r.Intn(2) == 0 {
			s.Init = api.Form{}
		}
		ps := randomPreds(r, len(s.Vars), 2)
		all := fitting(s, 2)
		if len(all) == 0 {
			continue
		}
		for range 12 {
			x := one(r, all...)
			states := []api.State{x}
			p := lasso.Path{States: []abstr.Abs{abstr.Of(ps, x)}}
			for range r.Intn(4) {
				act := r.Intn(len(s.Acts)+2) - 1
				y, ok := kripke.Go(s, x, act, []api.Int{small(r, 2), small(r, 2)})
				if !ok || r.Intn(8) == 0 {
					y = one(r, all...)
				}
				x = y
				states, p.States, p.Acts = append(states, y), append(p.States, abstr.Of(ps, y)), append(p.Acts, act)
			}
			if a := &p.States[r.Intn(len(p.States))]; len(a.Bits) > 0 && r.Intn(4) == 0 {
				a.Bits[0] = !a.Bits[0]
			}
			var vals []api.Int
			initial := states[0] // at any locations
			initial.Locs = make([]int, len(s.Procs))
			want := kripke.First(s, initial)
			for i, x := range states {
				vals = append(vals, x.Vals...)
				want = want && slices.Equal(abstr.Of(ps, x).Bits, p.States[i].Bits)
				if i < len(p.Acts) {
					want = want && stepHolds(s, p.States[i].Locs, p.Acts[i], x, states[i+1])
				}
			}
			f := lasso.Says(s, ps, p)
			if got := logic.Holds(f, vals); got != want {
				t.Fatalf("%s of %s on %+v: %v", logic.Text(f, nil), toldPath(p), s, got)
			}
			counts[want]++
		}
	}
	if counts[true] < 400 || counts[false] < 400 {
		t.Errorf("%v", counts)
	}
}

// stepHolds reports whether an act leads from some locations and values to other values,
// at whatever locations.
func stepHolds(s api.Sys, locs []int, act int, x, y api.State) bool {
	after, ok := wp.Places(s, locs, act)
	return ok && kripke.Leads(s, api.State{Locs: locs, Vals: x.Vals}, act, api.State{Locs: after, Vals: y.Vals})
}

// TestP23_1SaysLong: paths with more states than there are copies: those beyond copy 4096
// are at that one.
func TestP23_1SaysLong(t *testing.T) {
	s := system("1;free;x = 0;0 0>0 / x := x + 1")
	ps := preds("x >= 4000")
	for _, n := range []int{4095, 4096, 4097, 4098, 5000} {
		p := lasso.Path{States: slices.Repeat([]abstr.Abs{abstract("0 /-")}, n), Acts: make([]int, n)}
		want := []api.Form{wp.Start(s, 0)}
		for i := range n {
			want = append(want, logic.Move(abstr.Cube(ps, []bool{false}), min(i, 4096)))
		}
		for i := range n - 1 {
			want = append(want, wp.Step(s, []int{0}, 0, i))
		}
		if got := lasso.Says(s, ps, p); !logic.Same(logic.Flat(got), logic.Flat(logic.All(want...))) {
			t.Errorf("the formula of %d states", n)
		}
	}
}
