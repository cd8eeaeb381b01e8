package wp_test

import (
	"fmt"
	"math"
	"math/rand"
	"slices"
	"testing"

	"plumbline/api"
	"plumbline/logic"
	"plumbline/wp"
	"plumbline/zint"
)

func TestP20_1Range(t *testing.T) {
	for _, x := range []struct {
		system string
		k      int
		want   string
	}{
		{"2;0..3;true", 0, "x >= 0 & x <= 3"}, {"2;0..3;true", 1, "x1 >= 0 & x1 <= 3"}, {"2;0..3;true", 3, "x3 >= 0 & x3 <= 3"}, {"2;-7..-2;x = 1", 0, "x >= -7 & x <= -2"}, {"2;3..3;true", 0, "x = 3"}, {"2;3..2;true", 0, "false"}, {"2;free;true", 0, "true"}, {"2;out;true", 2, "true"}, {"2;0..3 free -1..1;true", 0, "x >= 0 & x <= 3 & z >= -1 & z <= 1"}, {"2;0..3 free -1..1;true", 1, "x1 >= 0 & x1 <= 3 & z1 >= -1 & z1 <= 1"},
		{"2;free 2..1;true", 1, "false"}, {";0..3;true", 0, "x >= 0 & x <= 3"}, {"2;;true", 0, "true"}, {"2;;true", 4, "true"}, {";;false", 0, "true"},
		// fewer and more bounds than variables
		{"2;0..3 out out;true", 1, "x1 >= 0 & x1 <= 3"}, {"2;0..3|0..5;true", 0, "x >= 0 & x <= 3"}, {"2;|3..2;true", 0, "true"}, {"2;free|3..2 0..1;true", 1, "true"}, {"2;0..3 1..4|7..9;true", 1, "x1 >= 0 & x1 <= 3 & y1 >= 1 & y1 <= 4"},
		{"2;-123456789012345678901234567890..18446744073709551616;true", 0, "x >= -123456789012345678901234567890 & x <= 18446744073709551616"},
	} {
		s := system(x.system)
		expectForm(t, fmt.Sprint("Range of ", x.system, " at ", x.k), s, wp.Range(s, x.k), x.want)
	}
}

func TestP20_1Start(t *testing.T) {
	for _, x := range []struct {
		system string
		k      int
		want   string
	}{
		{"2;0..3;x < 2", 0, "x >= 0 & x <= 3 & x < 2"}, {"2;0..3;x < 2", 1, "x1 >= 0 & x1 <= 3 & x1 < 2"}, {"2;0..3;x > 3", 0, "false"}, {"2;0..3;x > 2 | x = 0", 2, "x2 = 3 | x2 = 0"}, {"2;free free;x < y & !(x = 3)", 0, "x < y & x != 3"}, {"2;free 0..1;x < y & !(x = 3)", 2, "x2 < y2 & x2 != 3 & y2 >= 0 & y2 <= 1"}, {"2;3..2;true", 0, "false"}, {"2;;true", 0, "true"}, {"2;;false", 0, "false"}, {";;1 < 2", 3, "true"}, {"2;free;true", 0, "true"},
		// variables beyond the system's are moved, too
		{"2;0..3;z = 1", 0, "x >= 0 & x <= 3 & x2 = 1"}, {"2;0..3;z = 1", 1, "x1 >= 0 & x1 <= 3 & x3 = 1"},
	} {
		s := system(x.system)
		expectForm(t, fmt.Sprint("Start of ", x.system, " at ", x.k), s, wp.Start(s, x.k), x.want)
	}
}

// TestP20_1Can: systems with acts, the number of one, a copy, and where it can be
// executed.
func TestP20_1Can(t *testing.T) {
	for _, x := range []struct {
		system string
		act, k int
		want   string
	}{
		{"2;0..3;true;0 0>1 / x := x + 1", 0, 0, "x + 1 >= 0 & x + 1 <= 3"}, {"2;0..3;true;0 0>1 / x := x + 1", 0, 1, "x1 + 1 >= 0 & x1 + 1 <= 3"}, {"2;0..3;x = 2;0 0>1 x < 2", 0, 0, "x < 2 & x >= 0"}, {"2;0..3;true;0 0>1 x < 2 / x := 2*x", 0, 0, "x < 2 & 2*x >= 0"}, {"2;free;true;0 0>1 x < 2 / x := 2*x", 0, 3, "x3 < 2"}, {"2;free;true;0 0>1", 0, 0, "true"}, {"2;0..3 free;true;0 0>1 x < y / y := 7", 0, 0, "x < y & x >= 0 & x <= 3"}, {"2;0..3 0..5;true;0 0>1 / y := x", 0, 0, "x >= 0 & x <= 3"}, {"2;0..3 0..5;true;0 0>1 / y := 6", 0, 0, "false"}, {"2;0..3 0..5;true;0 0>1 / x := y", 0, 1, "y1 >= 0 & y1 <= 3"},
		{"2;;true;0 0>1", 0, 2, "true"}, {"2;;true;0 0>1 1 < 0", 0, 0, "false"}, {"2;0..3 out;true;0 0>1 / y := 7", 0, 0, "x >= 0 & x <= 3"}, {"2;0..3|5..4;true;0 0>1", 0, 0, "x >= 0 & x <= 3"},
		// where it can start does not matter
		{"3;0..3;true;0 2>1 x = 1", 0, 0, "x = 1"},
		// Any
		{"2;0..3;true;0 0>1 / x := *", 0, 0, "true"}, {"2;0..3;true;0 0>1 x = 7 / x := *", 0, 0, "x = 7"}, {"2;3..3;true;0 0>1 / x := *", 0, 0, "true"}, {"2;3..2;true;0 0>1 / x := *", 0, 0, "false"}, {"2;3..2;true;0 0>1 / x := 2", 0, 0, "false"}, {"2;3..2;true;0 0>1", 0, 0, "false"}, {"2;free;true;0 0>1 / x := *", 0, 0, "true"}, {"2;out;true;0 0>1 / x := *", 0, 0, "true"}, {"2;free 3..2;true;0 0>1 / x := *", 0, 0, "false"}, {"2;0..3 free;true;0 0>1 / x := *, y := x", 0, 0, "true"}, {"2;0..3 0..1;true;0 0>1 / x := *, y := x", 0, 1, "x1 >= 0 & x1 <= 1"},
		// several Moves of a variable: the first one counts
		{"2;0..3;true;0 0>1 / x := 1, x := 9", 0, 0, "true"}, {"2;0..3;true;0 0>1 / x := 9, x := 1", 0, 0, "false"}, {"2;0..3;true;0 0>1 / x := *, x := 9", 0, 0, "true"}, {"2;0..3;true;0 0>1 / x := 9, x := *", 0, 0, "false"}, {"2;0..3;true;0 0>1 / x := x, x := *", 0, 0, "x >= 0 & x <= 3"}, {"2;3..2;true;0 0>1 / x := *, x := x", 0, 0, "false"}, {"2;0..3 0..3;true;0 0>1 / y := x, x := y, y := 9, x := *", 0, 0, "x >= 0 & x <= 3 & y >= 0 & y <= 3"},
		// Moves that read what other Moves change
		{"2;0..3 0..1;true;0 0>1 / x := 1, y := x", 0, 0, "x >= 0 & x <= 1"}, {"2;0..3 0..1;true;0 0>1 / y := x, x := 1", 0, 0, "x >= 0 & x <= 1"}, {"2;0..3 0..1;true;0 0>1 / x := y, y := x", 0, 0, "x >= 0 & x <= 1 & y >= 0 & y <= 3"},
		// acts that are not sound
		{"2;0..3;true;0 0>1", 1, 0, "false"}, {"2;0..3;true;0 0>1", -1, 0, "false"}, {"2;0..3;true;0 0>1", -2, 0, "false"}, {"2;0..3;true;0 0>1", math.MaxInt, 0, "false"}, {"2;0..3;true;0 0>1", math.MinInt, 0, "false"}, {"2;0..3;true", 0, 0, "false"}, {"2;free;true;1 0>1", 0, 0, "false"}, {"2;free;true;-1 0>1", 0, 0, "false"}, {"2;free;true;9223372036854775807 0>1", 0, 0, "false"}, {";free;true;0 0>0", 0, 0, "false"}, {"2;free;true;0 2>1", 0, 0, "false"}, {"2;free;true;0 -1>1", 0, 0, "false"}, {"2;free;true;0 1>2", 0, 0, "false"}, {"2;free;true;0 1>-1", 0, 0, "false"}, {"0;free;true;0 0>0", 0, 0, "false"}, {"3 2;free;true;1 0>2", 0, 0, "false"}, {"2 3;free;true;1 0>2", 0, 0, "true"},
		{"2;free;true;0 0>1 / 1 := 2", 0, 0, "false"}, {"2;free;true;0 0>1 / -1 := 2", 0, 0, "false"}, {"2;free;true;0 0>1 / x := 1, -1 := *", 0, 0, "false"}, {"2;free;true;0 0>1 / 9223372036854775807 := *, x := 1", 0, 0, "false"}, {"2;;true;0 0>1 / x := 1", 0, 0, "false"}, {"2;free|0..1;true;0 0>1 / y := 1", 0, 0, "false"},
	} {
		s := system(x.system)
		expectForm(t, fmt.Sprint("Can of ", x.act, " of ", x.system, " at ", x.k), s, wp.Can(s, x.act, x.k), x.want)
	}
}

func TestP20_1Stuck(t *testing.T) {
	const acts = "2 3;0..3;true;0 0>1 x < 2;0 0>0 x > 1 / x := x + 1;1 1>2;0 1>1 x != 1 / x := 1;1 2>9;0 1>0 / 9 := 1"
	for _, x := range []struct {
		system, locs string
		k            int
		want         string
	}{
		{acts, "0 0", 0, "!(x >= 0 & x < 2) & !(x > 1 & x <= 2)"}, {acts, "0 0", 2, "!(x2 >= 0 & x2 < 2) & !(x2 > 1 & x2 <= 2)"}, {acts, "0 1", 0, "(x < 0 | x >= 3) & (x < 0 | x > 3)"}, {acts, "1 0", 0, "x = 1"}, {acts, "1 1", 1, "x1 = 1 & (x1 < 0 | x1 > 3)"}, {acts, "1 2", 0, "x = 1"}, {acts, "0 2", 0, "x < 0 | x >= 3"},
		// locations that do not exist, or are not as many as the processes
		{acts, "2 0", 0, "true"}, {acts, "-1 7", 0, "true"}, {acts, "-1 1", 0, "x < 0 | x > 3"}, {acts, "0", 0, "true"}, {acts, "", 0, "true"}, {acts, "0 0 0", 0, "true"},
		{"2;0..3;true", "0", 0, "true"}, {";0..3;true", "", 0, "true"}, {";;true", "", 0, "true"}, {"1;;true;0 0>0", "0", 0, "false"}, {"1;;false;0 0>0 false", "0", 0, "true"}, {"1;free;true;0 0>0 / x := *", "0", 0, "false"}, {"1;1..0;true;0 0>0 / x := *", "0", 0, "true"},
	} {
		s := system(x.system)
		expectForm(t, fmt.Sprint("Stuck of ", x.system, " at ", x.locs, " and ", x.k), s, wp.Stuck(s, integers(x.locs), x.k), x.want)
	}
}

func TestP20_1Step(t *testing.T) {
	for _, x := range []struct {
		system, locs string
		act, k       int
		want         string
	}{
		{"2;0..3;true;0 0>1 / x := x + 1", "0", 0, 0, "x1 = x + 1 & x1 >= 0 & x1 <= 3"}, {"2;0..3;true;0 0>1 / x := x + 1", "0", 0, 1, "x2 = x1 + 1 & x2 >= 0 & x2 <= 3"}, {"2;free;true;0 0>1 / x := x + 1", "0", 0, 3, "x4 = x3 + 1"}, {"2;free;true;0 0>1 x < 2", "0", 0, 0, "x < 2 & x1 = x"}, {"2;free free;true;0 0>1 x < y / y := 2*x + 1", "0", 0, 0, "x < y & x1 = x & y1 = 2*x + 1"}, {"2;free free;true;0 0>1 x < y / y := 2*x + 1", "0", 0, 1, "x1 < y1 & x2 = x1 & y2 = 2*x1 + 1"}, {"2;;true;0 0>1", "0", 0, 0, "true"}, {"2;;true;0 0>1 false", "0", 0, 0, "false"},
		{"2;free free;true;0 0>1 / x := y, y := x", "0", 0, 0, "x1 = y & y1 = x"}, {"2;free free;true;0 0>1 / y := x, x := x + y", "0", 0, 1, "x2 = x1 + y1 & y2 = x1"}, {"2;free;true;0 0>1 / x := 1, x := 2, x := *", "0", 0, 0, "x1 = 1"}, {"2;free;true;0 0>1 / x := *, x := 2", "0", 0, 0, "true"}, {"2;free free;true;0 0>1 / x := *", "0", 0, 0, "y1 = y"}, {"2;0..3 free;true;0 0>1 x = 9 / x := *, y := x", "0", 0, 0, "x = 9 & y1 = x & x1 >= 0 & x1 <= 3"}, {"2;3..2;true;0 0>1 / x := *", "0", 0, 0, "false"}, {"2;0..3 free;true;0 0>1 / y := 1", "0", 0, 0, "x1 = x & x >= 0 & x <= 3 & y1 = 1"},
		// acts that cannot start there
		{"2;free;true;0 0>1", "1", 0, 0, "false"}, {"2;free;true;0 0>1", "", 0, 0, "false"}, {"2;free;true;0 0>1", "0 0", 0, 0, "false"}, {"2;free;true;0 0>1", "0", 1, 0, "false"}, {"2;free;true;0 0>1", "0", -2, 0, "false"}, {"2;free;true;0 0>2", "0", 0, 0, "false"}, {"2;free;true;0 0>-1", "0", 0, 0, "false"}, {"2;free;true;0 2>1", "2", 0, 0, "false"}, {"2;free;true;0 -1>1", "-1", 0, 0, "false"}, {"2;free;true;1 0>1", "0", 0, 0, "false"}, {"2;free;true;-1 0>1", "0", 0, 0, "false"}, {"2;free;true;0 0>1 / 1 := 2", "0", 0, 0, "false"}, {"2;free;true;0 0>1 / x := 1, -1 := *", "0", 0, 0, "false"}, {"2;free;true;0 0>1", "0", math.MaxInt, 0, "false"}, {"2;free;true;0 0>1", "0", math.MinInt, 0, "false"},
		{"2 2;free;true;1 1>0", "1 0", 0, 0, "false"}, {"2 2;free;true;1 1>0", "0 1", 0, 0, "x1 = x"}, {"2 2;free;true;1 1>0", "9 1", 0, 0, "x1 = x"},
		// the step -1
		{"2;0..3;true;0 0>1 x < 2", "0", -1, 0, "!(x >= 0 & x < 2) & x1 = x"}, {"2;0..3;true;0 0>1 x < 2", "0", -1, 1, "!(x1 >= 0 & x1 < 2) & x2 = x1"}, {"2;0..3;true;0 0>1 x < 2", "1", -1, 0, "x1 = x"}, {"2;0..3;true;0 0>1 x < 2", "", -1, 0, "x1 = x"}, {"2;0..3;true;0 0>1 x < 2", "0 0", -1, 0, "x1 = x"}, {"2;free free;true", "0", -1, 0, "x1 = x & y1 = y"}, {"1;free;true;0 0>0", "0", -1, 0, "false"}, {"1;;true", "0", -1, 0, "true"}, {";;true", "", -1, 2, "true"}, {"2;free;true;0 0>1 / 1 := 2", "0", -1, 0, "x1 = x"},
	} {
		s := system(x.system)
		got := wp.Step(s, integers(x.locs), x.act, x.k)
		expectForm(t, fmt.Sprint("Step of ", x.act, " of ", x.system, " at ", x.locs, " and ", x.k), s, got, x.want)
	}
}

func TestP20_1Places(t *testing.T) {
	const acts = "2 3;free;true;0 0>1;1 0>2 x < 0;1 2>2 false;0 0>2;1 3>0;2 0>0;0 0>1 / 1 := 1;0 1>0 / x := 1"
	for _, x := range []struct {
		locs string
		act  int
		want string
	}{
		{"0 0", 0, "[1 0] true"}, {"0 2", 0, "[1 2] true"}, {"1 0", 0, "[] false"}, {"1 0", 1, "[1 2] true"}, {"0 1", 1, "[] false"}, {"0 2", 2, "[0 2] true"}, {"0 0", 3, "[] false"}, {"0 3", 4, "[] false"}, {"0 0", 5, "[] false"}, {"0 0", 6, "[] false"}, {"1 0", 7, "[0 0] true"}, {"0 0", 8, "[] false"}, {"0 0", -2, "[] false"}, {"0 0", math.MaxInt, "[] false"}, {"0 0", math.MinInt, "[] false"},
		{"0", 0, "[] false"}, {"", 0, "[] false"}, {"0 0 0", 0, "[] false"}, {"0 9", 0, "[1 9] true"}, {"0 -1", 0, "[1 -1] true"}, {"9 0", 1, "[9 2] true"}, {"0 0", -1, "[0 0] true"}, {"1 2", -1, "[1 2] true"}, {"", -1, "[] true"}, {"7", -1, "[7] true"}, {"0 0 -9", -1, "[0 0 -9] true"},
	} {
		locs, ok := wp.Places(system(acts), integers(x.locs), x.act)
		expect(t, fmt.Sprint("Places of ", x.act, " at ", x.locs), fmt.Sprint(locs, ok), x.want)
	}
	for _, act := range []int{-1, 0} {
		_, ok := wp.Places(system(";;true"), nil, act)
		if ok != (act == -1) {
			t.Errorf("Places of %d without processes: %v", act, ok)
		}
	}
}

// TestP20_1Unsound: the formulas of acts that are not sound are False itself.
func TestP20_1Unsound(t *testing.T) {
	s := system("2;free;true;1 0>1;0 2>0;0 0>1 / -1 := 1;0 0>1")
	for _, act := range []int{-2, 0, 1, 2, 4, math.MaxInt, math.MinInt} {
		for _, f := range []api.Form{wp.Can(s, act, 1), wp.Step(s, []int{0}, act, 1), wp.Pre(s, act, cond("x = 1", names))} {
			if !logic.Same(f, logic.Truth(false)) {
				t.Errorf("act %d: %s", act, logic.Text(f, names))
			}
		}
	}
	if f := wp.Step(s, []int{1}, 3, 1); !logic.Same(f, logic.Truth(false)) {
		t.Errorf("an act that starts elsewhere: %s", logic.Text(f, names))
	}
}

// TestP20_1Copies: copies that are negative, great and too great. Step is about the copy
// that k stands for and the next one.
func TestP20_1Copies(t *testing.T) {
	s := system("2;0..3 free;x < y;0 0>1 x = y / x := *;0 0>0 y > 5 / y := x")
	for name, f := range map[string]func(k int) api.Form{
		"Range": func(k int) api.Form { return wp.Range(s, k) },
		"Start": func(k int) api.Form { return wp.Start(s, k) },
		"Can":   func(k int) api.Form { return wp.Can(s, 1, k) },
		"Stuck": func(k int) api.Form { return wp.Stuck(s, []int{0}, k) },
		"Step":  func(k int) api.Form { return wp.Step(s, []int{0}, 1, k) },
		"-1":    func(k int) api.Form { return wp.Step(s, []int{0}, -1, k) },
	} {
		for _, x := range []struct{ k, as int }{
			{1, 1}, {2, 2}, {7, 7}, {4095, 4095}, {4096, 4096}, {4097, 4096}, {1 << 20, 4096}, {math.MaxInt32, 4096}, {math.MaxInt, 4096}, {-1, 0}, {-2, 0}, {-4096, 0}, {math.MinInt, 0},
		} {
			if got, want := f(x.k), logic.Move(f(0), x.as*2); !logic.Same(got, want) {
				t.Errorf("%s at %d: %s, want %s", name, x.k, logic.Text(got, nil), logic.Text(want, nil))
			}
		}
	}
	if vs := logic.Vars(wp.Step(s, []int{0}, 1, math.MaxInt)); !slices.Equal(vs, []int{8192, 8193, 8194, 8195}) {
		t.Errorf("Step at the last copy is about %v", vs)
	}
}

// TestP20_1ByWords: what holds at all small values of a copy and of the next one, with
// values of other copies that do not matter.
func TestP20_1ByWords(t *testing.T) {
	r := rand.New(rand.NewSource(20))
	counts := map[string]int{}
	for range 1000 {
		s := randomSystem(r, r.Intn(2))
		k := one(r, -1, 0, 0, 1, 2, 3)
		shift := max(k, 0) * len(s.Vars)
		before := make([]api.Int, shift)
		for i := range before {
			before[i] = small(r, 9)
		}
		same := func(what string, f api.Form, holds func(vals []api.Int) bool) {
			for _, vals := range lists(min(2*len(s.Vars), 3), 3) {
				if len(vals) == 3 {
					vals = append(vals, small(r, 3))
				}
				want := holds(vals)
				if got := logic.Holds(f, slices.Concat(before, vals)); got != want {
					t.Fatalf("%s of %v at %d: %s at %v is %v", what, s, k, logic.Text(f, nil), vals, got)
				}
				counts[fmt.Sprint(what[:4], want)]++
			}
		}
		same("Range", wp.Range(s, k), func(vals []api.Int) bool { return rangeHolds(s, vals) })
		same("Start", wp.Start(s, k), func(vals []api.Int) bool { return startHolds(s, vals) })
		locs := one(r, append(places(s), nil, []int{0})...)
		same("Stuck", wp.Stuck(s, locs, k), func(vals []api.Int) bool { return stuckHolds(s, locs, vals) })
		for act := -2; act <= len(s.Acts); act++ {
			same(fmt.Sprint("Can ", act), wp.Can(s, act, k), func(vals []api.Int) bool { return canHolds(s, act, vals) })
			same(fmt.Sprint("Step ", act), wp.Step(s, locs, act, k), func(vals []api.Int) bool { return stepHolds(s, locs, act, vals) })
		}
	}
	for _, what := range []string{"Rang", "Star", "Stuc", "Can ", "Step"} {
		if counts[what+"true"] < 1000 || counts[what+"false"] < 1000 {
			t.Errorf("%s holds %d times, and not %d times", what, counts[what+"true"], counts[what+"false"])
		}
	}
}

// TestP20_1Large: systems with many variables and acts.
func TestP20_1Large(t *testing.T) {
	const n = 2000
	s := api.Sys{Vars: make([]string, n), Bounds: make([]api.Bound, n), Procs: []api.Proc{{Locs: []string{"a"}}}}
	for v := range n {
		s.Bounds[v] = api.Bound{Is: true, Hi: zint.Of(5)}
		s.Acts = append(s.Acts, api.Act{Moves: []api.Move{{V: n - 1 - v, T: api.Term{K: zint.Of(int64(v % 7))}}}})
	}
	vals := make([]api.Int, 2*n)
	vals[2*n-1-6] = zint.Of(6)
	if f := wp.Step(s, []int{0}, 6, 0); logic.Holds(f, vals) {
		t.Error("an act that leaves a bound")
	}
	vals[2*n-1-6] = zint.Of(5)
	if f := wp.Step(s, []int{0}, 5, 0); logic.Holds(f, vals) {
		t.Error("an act that changes another variable")
	}
	if f := wp.Step(s, []int{0}, 7, 1); !logic.Holds(f, nil) {
		t.Error("an act that leaves all as it is")
	}
	s.Acts = s.Acts[:40]
	if f := wp.Stuck(s, []int{0}, 1); logic.Holds(f, nil) {
		t.Error("not stuck")
	}
}
