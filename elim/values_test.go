package elim_test

import (
	"math"
	"testing"

	"plumbline/api"
	"plumbline/elim"
	"plumbline/zint"
)

func swap(v int, t api.Term) elim.Swap { return elim.Swap{V: v, T: t} }

// oddZeros are numbers 0 that are not in the form of results.
func oddZeros() []api.Int {
	return []api.Int{{Neg: true}, {Abs: api.Nat{}}, {Abs: api.Nat{0}}, {Neg: true, Abs: api.Nat{0, 0}}}
}

// expectForm reports values that do not have the form of results.
func expectForm(t *testing.T, what string, vals []api.Int) {
	t.Helper()
	for _, val := range vals {
		if n := len(val.Abs); n == 0 && val.Neg || n > 0 && val.Abs[n-1] == 0 {
			t.Errorf("%s: %v does not have the form of results", what, val)
		}
	}
}

func TestP6_1Back(t *testing.T) {
	for _, c := range []struct {
		swaps []elim.Swap
		vals  []api.Int
		want  string
	}{
		{nil, nil, ""}, {nil, numbers(4, -5), "4 -5"}, {[]elim.Swap{}, []api.Int{}, ""},
		{nil, append(oddZeros(), long(), huge()), "0 0 0 0 6 -39614081257132168796771975174"},
		{[]elim.Swap{swap(0, of(-3, 0, 2))}, numbers(7, 5), "7 5"},
		{[]elim.Swap{swap(0, of(-3, 0, 2))}, numbers(0, 4), "5 4"},
		// values beyond the end of vals are 0
		{[]elim.Swap{swap(0, of(-3, 0, 2))}, nil, "-3"}, {[]elim.Swap{swap(0, of(-3, 0, 2))}, numbers(9), "-3"},
		{[]elim.Swap{swap(3, of(1, 2))}, numbers(4), "4 0 0 9"}, {[]elim.Swap{swap(3, of(1, 2))}, numbers(4, 5, 6, 7, 8), "4 5 6 9 8"},
		{[]elim.Swap{swap(2, of(1))}, nil, "0 0 1"}, {[]elim.Swap{swap(1, sumOf(4, part(5, math.MaxInt)))}, nil, "0 4"},
		// from the last to the first
		{[]elim.Swap{swap(0, of(1, 0, 1)), swap(1, of(1, 0, 0, 1))}, numbers(0, 0, 5), "7 6 5"},
		{[]elim.Swap{swap(1, of(1, 0, 0, 1)), swap(0, of(1, 0, 1))}, numbers(0, 0, 5), "1 6 5"},
		{[]elim.Swap{swap(0, of(1)), swap(0, of(2)), swap(1, of(0, 1))}, numbers(8), "1 8"},
		{[]elim.Swap{swap(4, of(0, 1)), swap(0, of(2)), swap(1, of(0, 1))}, numbers(8), "2 8 0 0 2"},
		// a term with V, and terms that are not plain
		{[]elim.Swap{swap(0, of(1, 3))}, numbers(5), "16"}, {[]elim.Swap{swap(0, of(1, 3))}, nil, "1"},
		{[]elim.Swap{swap(0, sumOf(1, part(2, 1), part(7, -1), part(1, 1)))}, numbers(5, 2), "7 2"},
		{[]elim.Swap{swap(0, api.Term{K: api.Int{Neg: true, Abs: api.Nat{0}}})}, numbers(5), "0"},
		{[]elim.Swap{swap(1, api.Term{Parts: []api.Part{{V: 0, C: huge()}}, K: long()})}, []api.Int{long()}, "6 -237684487542793012780631851038"},
		// variables that are ignored
		{[]elim.Swap{swap(-1, of(3)), swap(math.MinInt, of(4)), swap(1<<21, of(5)), swap(math.MaxInt, of(6))}, numbers(1), "1"},
		{[]elim.Swap{swap(0, of(3, 0, 1)), swap(1<<21, of(5)), swap(1, of(7))}, nil, "10 7"},
	} {
		got := elim.Back(c.swaps, c.vals)
		expectText(t, "Back of "+swapTexts(c.swaps)+" at "+valTexts(c.vals), valTexts(got), c.want)
		expectForm(t, "Back", got)
	}
}

// TestP6_1BackOfMany: 2^21 - 1 is the greatest variable that has a value, but for
// those of vals.
func TestP6_1BackOfMany(t *testing.T) {
	const last = 1<<21 - 1
	got := elim.Back([]elim.Swap{swap(last, of(4, 1)), swap(last+1, of(1)), swap(0, of(3))}, nil)
	if len(got) != last+1 || zint.Text(got[0]) != "3" || zint.Text(got[last]) != "7" || zint.Sign(got[last-1]) != 0 {
		t.Errorf("Back: %d values", len(got))
	}
	got = elim.Back([]elim.Swap{swap(0, sumOf(1, part(2, last+2))), swap(last+2, of(5))}, append(make([]api.Int, last+2), number(9), number(8)))
	if len(got) != last+4 || zint.Text(got[0]) != "19" || zint.Text(got[last+2]) != "9" || zint.Text(got[last+3]) != "8" {
		t.Errorf("Back: %d values", len(got))
	}
}

func TestP6_1Forth(t *testing.T) {
	const no = "none"
	for _, c := range []struct {
		swaps []elim.Swap
		vals  []api.Int
		first int
		want  string
	}{
		// first
		{nil, nil, 0, ""}, {nil, numbers(4, 5), 0, ""}, {nil, numbers(4, 5), 1, "4"}, {nil, numbers(4, 5), 2, "4 5"}, {nil, numbers(4, 5), 4, "4 5 0 0"},
		{nil, numbers(4, 5), -1, ""}, {nil, numbers(4, 5), math.MinInt, ""}, {nil, nil, 2, "0 0"},
		{nil, append(oddZeros(), long(), huge()), 6, "0 0 0 0 6 -39614081257132168796771975174"},
		// the greatest variable is within the values
		{[]elim.Swap{swap(0, of(1, 0, 2))}, numbers(7, 3), 2, "7 3"}, {[]elim.Swap{swap(0, of(1, 0, 2))}, numbers(8, 3), 2, no},
		{[]elim.Swap{swap(0, of(7))}, numbers(7), 1, "7"}, {[]elim.Swap{swap(0, of(7))}, numbers(-7), 1, no},
		{[]elim.Swap{swap(0, of(0, 1))}, numbers(7), 1, "7"}, {[]elim.Swap{swap(0, of(0, 2))}, numbers(7), 1, no},
		{[]elim.Swap{swap(1, of(4, 1))}, numbers(-4), 3, "-4 0 0"},
		// it is beyond
		{[]elim.Swap{swap(0, of(1, 0, 2))}, numbers(7), 1, "7 3"}, {[]elim.Swap{swap(0, of(1, 0, 2))}, numbers(7, 9), 1, "7 3"},
		{[]elim.Swap{swap(0, of(1, 0, 2))}, numbers(8), 1, no}, {[]elim.Swap{swap(0, of(1, 0, -2))}, numbers(8), 1, no},
		{[]elim.Swap{swap(0, of(1, 0, -2))}, numbers(-8), 1, no}, {[]elim.Swap{swap(0, of(0, 0, -3))}, numbers(-6), 1, "-6 2"},
		{[]elim.Swap{swap(0, of(1, 0, 5, 0, 3))}, numbers(7), 1, "7 0 0 2"}, {[]elim.Swap{swap(1, of(1, 2, 0, 3))}, numbers(5, 2), 2, "5 2 -3"},
		{[]elim.Swap{swap(0, of(1, 1, 2))}, numbers(7), 1, no}, {[]elim.Swap{swap(0, of(1, 3, 5))}, numbers(7), 1, "7 -3"},
		{[]elim.Swap{swap(0, sumOf(1, part(9, -1), part(1, 2), part(5, 3), part(-5, 3), part(1, 2)))}, numbers(7), 1, "7 0 3"},
		{[]elim.Swap{swap(0, sumOf(7, part(0, 9)))}, numbers(7), 1, "7"},
		{[]elim.Swap{swap(0, sumOf(0, part(-6, 1)))}, []api.Int{{Neg: true, Abs: api.Nat{36, 0, 6, 0}}}, 1, "-110680464442257309732 18446744073709551622"},
		// in order
		{[]elim.Swap{swap(0, of(-1, 0, 1, -4)), swap(1, of(-1, 0, 0, 0, -3)), swap(2, of(-1, 0, 0, 0, -2))}, numbers(2, -1), 2, "2 -1 -1 0"},
		{[]elim.Swap{swap(0, of(-1, 0, 1, -4)), swap(1, of(-1, 0, 0, 0, -3)), swap(2, of(-1, 0, 0, 0, -2))}, numbers(7, -4), 2, "7 -4 -3 1"},
		{[]elim.Swap{swap(0, of(-1, 0, 1, -4)), swap(1, of(-1, 0, 0, 0, -3)), swap(2, of(-1, 0, 0, 0, -2))}, numbers(7, -3), 2, no},
		{[]elim.Swap{swap(0, of(0, 0, 1)), swap(0, of(0, 0, 0, 1)), swap(2, of(1, 0, 1))}, numbers(5), 1, no},
		{[]elim.Swap{swap(0, of(0, 0, 1)), swap(0, of(0, 0, 0, 1)), swap(2, of(0, 0, 1))}, numbers(5), 1, "5 5 5"},
		// V is negative or beyond the current values
		{[]elim.Swap{swap(-1, of(0))}, numbers(5), 1, no}, {[]elim.Swap{swap(math.MinInt, of(0))}, numbers(5), 1, no},
		{[]elim.Swap{swap(1, of(0))}, numbers(5, 0), 1, no}, {[]elim.Swap{swap(math.MaxInt, of(0))}, numbers(5), 1, no},
		{[]elim.Swap{swap(0, of(0))}, numbers(0), 0, no}, {[]elim.Swap{swap(1, of(0, 0, 0, 1))}, numbers(5), 1, no},
		{[]elim.Swap{swap(1, of(0, 0, 1))}, numbers(5), 1, no},
		{[]elim.Swap{swap(1, of(0)), swap(0, of(0, 0, 1))}, numbers(0), 1, no},
		{[]elim.Swap{swap(0, of(0, 0, 0, 1)), swap(1, of(0)), swap(2, of(6))}, numbers(6), 1, "6 0 6"},
		// T has a variable greater than 2^21 - 1
		{[]elim.Swap{swap(0, sumOf(0, part(1, 1<<21)))}, numbers(6), 1, no}, {[]elim.Swap{swap(0, sumOf(6, part(1, math.MaxInt)))}, numbers(6), 1, no},
		{[]elim.Swap{swap(0, sumOf(6, part(1, math.MaxInt), part(-1, math.MaxInt)))}, numbers(6), 1, "6"},
	} {
		got, ok := elim.Forth(c.swaps, c.vals, c.first)
		text := valTexts(got)
		if !ok {
			text = no + text
		}
		expectText(t, "Forth of "+swapTexts(c.swaps)+" at "+valTexts(c.vals), text, c.want)
		expectForm(t, "Forth", got)
	}
}

func TestP6_1ForthOfMany(t *testing.T) {
	const last = 1<<21 - 1
	for _, first := range []int{last + 1, last + 2, math.MaxInt} {
		got, ok := elim.Forth(nil, append(make([]api.Int, last), number(9), number(8)), first)
		if !ok || len(got) != last+1 || zint.Text(got[last]) != "9" {
			t.Errorf("Forth with first %d: %d values, %v", first, len(got), ok)
		}
		got, ok = elim.Forth([]elim.Swap{swap(0, sumOf(0, part(1, last+1)))}, make([]api.Int, last+3), first)
		if ok || got != nil {
			t.Errorf("Forth with first %d: %d values, %v", first, len(got), ok)
		}
	}
	got, ok := elim.Forth([]elim.Swap{swap(0, sumOf(1, part(3, last))), swap(last-1, of(0))}, numbers(7), 1)
	if !ok || len(got) != last+1 || zint.Text(got[last]) != "2" || zint.Sign(got[last-1]) != 0 {
		t.Errorf("Forth to the greatest variable: %d values, %v", len(got), ok)
	}
	if got, ok := elim.Forth([]elim.Swap{swap(0, sumOf(1, part(3, last)))}, numbers(8), 1); ok || got != nil {
		t.Errorf("Forth to the greatest variable, beside false: %d values, %v", len(got), ok)
	}
}
