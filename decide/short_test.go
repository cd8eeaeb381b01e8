package decide_test

import (
	"fmt"
	"math"
	"slices"
	"testing"

	"plumbline/api"
	"plumbline/decide"
	"plumbline/logic"
	"plumbline/omega"
	"plumbline/rel"
)

func TestP9_3Trim(t *testing.T) {
	x, y, both := leastRel(-1, 1), leastRel(-2, 0, 1), leastRel(-3, 1, 1) // x >= 1, y >= 2, x + y >= 3
	far := api.Rel{T: sumOf(0, part(1, 65536))}
	for _, c := range []struct {
		rs   []api.Rel
		want string
	}{
		{nil, ""}, {[]api.Rel{}, ""}, {[]api.Rel{leastRel(0)}, ""}, {[]api.Rel{zeroRel(0), leastRel(7), {T: sumOf(1, part(3, -1))}}, ""},
		{[]api.Rel{x}, "x - 1 >= 0"}, {[]api.Rel{x, x, leastRel(-1, 2), leastRel(4, 3)}, "x - 1 >= 0"}, {[]api.Rel{zeroRel(6, -2, -4)}, "x + 2*y - 3 = 0"},
		{[]api.Rel{x, both, y}, "x - 1 >= 0, y - 2 >= 0"}, {[]api.Rel{y, both, x}, "x - 1 >= 0, y - 2 >= 0"}, {[]api.Rel{both, y}, "x + y - 3 >= 0, y - 2 >= 0"},
		// relations that cannot hold together: Tidy finds it, or it does not
		{[]api.Rel{leastRel(-1)}, "-1 >= 0"}, {[]api.Rel{x, zeroRel(1)}, "-1 >= 0"}, {[]api.Rel{x, leastRel(0, -1)}, "-1 >= 0"},
		{[]api.Rel{zeroRel(-3, 2)}, "-1 >= 0"}, {[]api.Rel{zeroRel(-3, 1, 1), zeroRel(-4, 1, 1), far}, "-1 >= 0"},
		{hollowRels(), "-x + z >= 0, x - y - 1 >= 0, y - z >= 0"},
		{append(hollowRels(), leastRel(-9, 0, 0, 0, 1), leastRel(4, 1, 1, 1)), "-x + z >= 0, x - y - 1 >= 0, y - z >= 0"},
		// of x = 1, x = y and y = 1, each follows from the others, until one is removed
		{[]api.Rel{zeroRel(-1, 1), zeroRel(0, 1, -1), zeroRel(-1, 0, 1)}, "x - y = 0, y - 1 = 0"},
		// x + 2y >= 6 and 2x + y >= 6 imply x + y >= 4, which follows from one and x >= 2, too
		{[]api.Rel{leastRel(-6, 1, 2), leastRel(-6, 2, 1), leastRel(-4, 1, 1)}, "x + 2*y - 6 >= 0, 2*x + y - 6 >= 0"},
		{[]api.Rel{zeroRel(0, 1, -2), leastRel(-7, 1), leastRel(-8, 1), leastRel(-4, 0, 1)}, "x - 2*y = 0, y - 4 >= 0"},
		// x = y follows from z >= x >= v3 >= y >= z, and x >= y from x = y
		{
			[]api.Rel{zeroRel(0, 1, -1), leastRel(0, -1, 0, 1), leastRel(0, 1, 0, 0, -1), leastRel(0, 0, -1, 0, 1), leastRel(0, 0, 1, -1)},
			"-x + z >= 0, x - v3 >= 0, -y + v3 >= 0, y - z >= 0",
		},
		{[]api.Rel{leastRel(0, 1, -1), leastRel(0, 0, 1, -1), leastRel(0, -1, 0, 1), zeroRel(0, 1, -1)}, "-x + z >= 0, x - y = 0, y - z >= 0"},
		{[]api.Rel{leastRel(-3, 2, -2), leastRel(0, -1, 1), zeroRel(0, 1)}, "-1 >= 0"},
		// what is not known to follow
		{append(endlessRels(), x), "x - 1 >= 0, -4098*y - 5*z + 6 >= 0, 4098*y + 5*z - 1 >= 0"},
		{[]api.Rel{x, both, y, far}, "x - 1 >= 0, x + y - 3 >= 0, y - 2 >= 0, v65536 >= 0"},
	} {
		expectText(t, "Trim of "+texts(c.rs), texts(decide.Trim(c.rs, 5000)), c.want)
	}
}

// trimmed is what the document's words say of Trim.
func trimmed(rs []api.Rel, fuel int) []api.Rel {
	tidy, ok := rel.Tidy(rs)
	if !ok {
		return []api.Rel{leastRel(-1)}
	}
	removed := map[int]bool{}
	for i, r := range tidy {
		var others []api.Rel
		for k, other := range tidy {
			if k != i && !removed[k] {
				others = append(others, other)
			}
		}
		follows, known := decide.Follows(list(others...), atom(r), fuel)
		removed[i] = follows && known
	}
	var rest []api.Rel
	for i, r := range tidy {
		if !removed[i] {
			rest = append(rest, r)
		}
	}
	return rest
}

func TestP9_3TrimByRules(t *testing.T) {
	shorter := 0
	for i, rs := range lists(600) {
		for _, fuel := range []int{i % 30, 2000} {
			got := decide.Trim(rs, fuel)
			expectText(t, "Trim of "+texts(rs), texts(got), texts(trimmed(rs, fuel)))
			if tidy, _ := rel.Tidy(rs); len(got) < len(tidy) {
				shorter++
			}
		}
	}
	if shorter < 200 {
		t.Errorf("only %d are shorter", shorter)
	}
}

func TestP9_3TrimPreserves(t *testing.T) {
	for i, rs := range lists(600) {
		for _, fuel := range []int{-1, i % 20, 3000, math.MaxInt32} {
			got := decide.Trim(rs, fuel)
			expectSame(t, "Trim", list(rs...), list(got...))
			tidy, ok := rel.Tidy(rs)
			for _, r := range got {
				if ok && !slices.ContainsFunc(tidy, func(other api.Rel) bool { return rel.Same(r, other) }) {
					t.Errorf("Trim of %s: %s is not in %s", texts(rs), texts([]api.Rel{r}), texts(tidy))
				}
			}
			if !slices.IsSortedFunc(got, rel.Cmp) {
				t.Errorf("Trim of %s: %s is not in the order of Tidy", texts(rs), texts(got))
			}
			for k, r := range got { // none that remains follows from the others
				others := slices.Concat(got[:k], got[k+1:])
				if yes, _ := decide.Follows(list(others...), atom(r), fuel); ok && yes {
					t.Errorf("Trim of %s: %s follows from %s", texts(rs), texts([]api.Rel{r}), texts(others))
				}
			}
		}
	}
}

// expectSame reports where f and g hold at different values.
func expectSame(t *testing.T, what string, f, g api.Form) {
	t.Helper()
	for _, vals := range points(8) {
		if holds(f, vals) != holds(g, vals) {
			t.Errorf("%s of %s: %s differs at %s", what, text(f), text(g), valTexts(vals))
			return
		}
	}
}

// TestP9_3TrimFuel: whether x + y >= 3 follows consumes 9, and whether x >= 1 does
// consumes 7; each relation has the fuel that is given.
func TestP9_3TrimFuel(t *testing.T) {
	rs := []api.Rel{leastRel(-1, 1), leastRel(-3, 1, 1), leastRel(-2, 0, 1)}
	for fuel, want := range map[int]int{math.MinInt: 3, -1: 3, 0: 3, 1: 3, 8: 3, 9: 2, 10: 2, 100: 2, api.MaxFuel: 2, api.MaxFuel + 1: 2, math.MaxInt: 2} {
		if got := decide.Trim(rs, fuel); len(got) != want {
			t.Errorf("Trim with %d: %s", fuel, texts(got))
		}
	}
	// two relations that follow, for which 18 would be consumed together
	twice := append(slices.Clone(rs), rel.Move(rs[0], 2), rel.Move(rs[1], 2), rel.Move(rs[2], 2))
	for fuel := range 60 {
		expectText(t, "Trim", texts(decide.Trim(twice, fuel)), texts(trimmed(twice, fuel)))
	}
	if got := decide.Trim(twice, 29); len(got) != 4 {
		t.Errorf("Trim: %s", texts(got))
	}
	// contradictions are found without fuel, as far as Tidy finds them
	expectText(t, "x >= 1, x <= 0", texts(decide.Trim([]api.Rel{leastRel(-1, 1), leastRel(0, -1)}, 0)), "-1 >= 0")
	expectText(t, "x >= 1, x >= 2", texts(decide.Trim([]api.Rel{leastRel(-1, 1), leastRel(-2, 1)}, -5)), "x - 2 >= 0")
}

func TestP9_3Short(t *testing.T) {
	x, y, both := least(-1, 1), least(-2, 0, 1), least(-3, 1, 1) // x >= 1, y >= 2, x + y >= 3
	far := atom(api.Rel{T: sumOf(0, part(1, 65536))})
	for _, c := range []struct {
		f    api.Form
		want string
	}{
		{yes(), "true"}, {no(), "false"}, {and(), "true"}, {or(), "false"}, {of(api.Not), "false"}, {of(-1), "false"}, {of(6, x), "false"}, {not(of(math.MaxInt)), "true"},
		{x, "x - 1 >= 0"}, {least(-1, 2), "x - 1 >= 0"}, {least(2), "true"}, {zero(-1, 2), "false"}, {not(x), "-x >= 0"}, {not(zero(-3, 1)), "(x - 4 >= 0 | -x + 2 >= 0)"},
		{and(x, both, y), "(x - 1 >= 0 & y - 2 >= 0)"}, {and(x, x), "x - 1 >= 0"}, {or(x, x), "(x - 1 >= 0 | x - 1 >= 0)"}, {or(x, not(x)), "(x - 1 >= 0 | -x >= 0)"},
		{or(and(x, both, y), and(not(x), not(x))), "((x - 1 >= 0 & y - 2 >= 0) | -x >= 0)"},
		{and(or(x, both), y), "((x - 1 >= 0 & y - 2 >= 0) | (x + y - 3 >= 0 & y - 2 >= 0))"}, {or(yes(), x), "true"}, {or(x, and(least(1), least(0))), "true"},
		// lists that are omitted, and those that are known to be Unsat
		{absurd(), "false"}, {or(absurd(), x), "x - 1 >= 0"}, {hollow(), "false"}, {or(hollow(), hollow()), "false"}, {or(hollow(), x, hollow()), "x - 1 >= 0"},
		{or(x, and(hollow(), y), y), "(x - 1 >= 0 | y - 2 >= 0)"},
		// what is not known
		{endless(), "(-4098*y - 5*z + 6 >= 0 & 4098*y + 5*z - 1 >= 0)"}, {or(x, endless()), "(x - 1 >= 0 | (-4098*y - 5*z + 6 >= 0 & 4098*y + 5*z - 1 >= 0))"},
		{and(far, x, both, y), "(x - 1 >= 0 & x + y - 3 >= 0 & y - 2 >= 0 & v65536 >= 0)"},
	} {
		got, e := decide.Short(c.f, 5000)
		if e != api.OK {
			t.Errorf("Short of %s: %d", text(c.f), e)
		}
		expectText(t, "Short of "+text(c.f), text(got), c.want)
	}
}

// TestP9_3ShortFuel: layer 8 consumes 7 until it finds that there is no solution.
func TestP9_3ShortFuel(t *testing.T) {
	kept := "(-x + z >= 0 & x - y - 1 >= 0 & y - z >= 0)"
	for fuel, want := range map[int]string{math.MinInt: kept, -1: kept, 0: kept, 6: kept, 7: "false", 8: "false", api.MaxFuel + 1: "false", math.MaxInt: "false"} {
		got, e := decide.Short(hollow(), fuel)
		if e != api.OK {
			t.Errorf("Short with %d: %d", fuel, e)
		}
		expectText(t, "Short", text(got), want)
	}
	three := and(least(-1, 1), least(-3, 1, 1), least(-2, 0, 1))
	for fuel, want := range map[int]int{0: 3, 8: 3, 9: 2, 1000: 2} {
		if got, _ := decide.Short(three, fuel); len(got.Kids) != want {
			t.Errorf("Short with %d: %s", fuel, text(got))
		}
		if got, _ := decide.Short(or(three, hollow(), three), fuel); fuel >= 7 && (len(got.Kids) != 2 || len(got.Kids[1].Kids) != want) {
			t.Errorf("Short with %d: %s", fuel, text(got))
		}
	}
}

func TestP9_3ShortOfManyLists(t *testing.T) {
	x := least(-1, 1)
	for _, f := range []api.Form{many(4097, x), many(4097, absurd()), or(x, many(4096, hollow())), and(many(64, x), many(65, x)), ors(13), ors(2000)} {
		for _, fuel := range []int{-1, 0, 50, math.MaxInt} {
			if got, e := decide.Short(f, fuel); e != api.ErrMany || fmt.Sprint(got) != fmt.Sprint(no()) {
				t.Errorf("Short: %.99s, %d", text(got), e)
			}
		}
	}
	for _, c := range []struct {
		f     api.Form
		lists int
	}{{many(4096, x), 4096}, {and(many(64, x), many(64, x)), 4096}, {or(many(4095, absurd()), x, no()), 0}, {many(4096, absurd()), 0}, {ors(6), 64}} {
		for _, fuel := range []int{-1, 0, 50} { // there may be more lists than fuel
			if got, e := decide.Short(c.f, fuel); e != api.OK || len(got.Kids) != c.lists {
				t.Errorf("Short: %d lists, %d", len(got.Kids), e)
			}
		}
	}
}

// shortened is what the document's words say of Short.
func shortened(f api.Form, fuel int) api.Form {
	cubes, _ := logic.Cubes(f, 4096)
	whole := or()
	for _, cube := range cubes {
		if can, known := omega.Can(cube, fuel); known && !can {
			continue
		}
		whole.Kids = append(whole.Kids, list(decide.Trim(cube, fuel)...))
	}
	return logic.Flat(whole)
}

func TestP9_3ShortByRules(t *testing.T) {
	changed := 0
	for i, f := range samples(700) {
		for _, fuel := range []int{i % 25, 2000} {
			got, e := decide.Short(f, fuel)
			if e != api.OK {
				t.Errorf("Short of %s: %d", text(f), e)
			}
			expectText(t, "Short of "+text(f), text(got), text(shortened(f, fuel)))
			expectText(t, "Flat of Short of "+text(f), text(logic.Flat(got)), text(got))
			expectSame(t, "Short", f, got)
			if text(got) != text(logic.Flat(f)) {
				changed++
			}
		}
	}
	if changed < 200 {
		t.Errorf("only %d are other than Flat", changed)
	}
}
