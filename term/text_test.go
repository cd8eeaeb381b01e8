package term_test

import (
	"math"
	"testing"

	"plumbline/api"
	"plumbline/term"
)

func TestP3_1Name(t *testing.T) {
	names := []string{"x", "", "a b"}
	for _, x := range []struct {
		v    int
		want string
	}{
		{0, "x"}, {1, ""}, {2, "a b"}, {3, "v3"}, {12, "v12"}, {-1, "v-1"},
		{math.MaxInt, "v9223372036854775807"}, {math.MinInt, "v-9223372036854775808"},
	} {
		if got := term.Name(x.v, names); got != x.want {
			t.Errorf("Name(%d) = %q", x.v, got)
		}
	}
	if got := term.Name(0, nil); got != "v0" {
		t.Errorf("Name(0, nil) = %q", got)
	}
}

func TestP3_1Text(t *testing.T) {
	huge := api.Int{Neg: true, Abs: api.Nat{0, 0, 1, 0}}
	for _, x := range []struct {
		t     api.Term
		names []string
		want  string
	}{
		{sumOf(2, part(3, 0), part(-1, 1)), []string{"x", "y"}, "3*x - y + 2"},
		{sumOf(2, part(-1, 0)), []string{"x"}, "-x + 2"},
		{sumOf(0, part(1, 0)), []string{"x"}, "x"},
		{sumOf(-2, part(1, 0)), []string{"x"}, "x - 2"},
		{sumOf(0, part(-3, 0), part(1, 1)), []string{"x"}, "-3*x + v1"},
		{sumOf(1, part(1, 0), part(10, 1), part(-10, 2), part(-1, 3)), nil, "v0 + 10*v1 - 10*v2 - v3 + 1"},
		{sumOf(-1, part(1, 1), part(2, 0)), []string{"x", "y"}, "2*x + y - 1"},
		{sumOf(0, part(2, 0), part(-2, 0)), []string{"x"}, "0"},
		{sumOf(0, part(2, -4)), []string{"x"}, "0"},
		{sumOf(7), nil, "7"}, {sumOf(-7), nil, "-7"}, {sumOf(1), nil, "1"}, {sumOf(-1), nil, "-1"}, {sumOf(0), nil, "0"},
		{api.Term{}, nil, "0"},
		{api.Term{K: api.Int{Neg: true, Abs: api.Nat{0}}}, nil, "0"},
		{api.Term{Parts: []api.Part{part(1, 0)}, K: api.Int{Neg: true, Abs: api.Nat{0}}}, []string{"x"}, "x"},
		{api.Term{Parts: []api.Part{{V: 0, C: huge}, {V: 1, C: huge}}, K: huge}, []string{"x", "y"},
			"-18446744073709551616*x - 18446744073709551616*y - 18446744073709551616"},
		{api.Term{Parts: []api.Part{{V: 0, C: api.Int{Abs: api.Nat{1, 0}}}}}, []string{"x"}, "x"},
		// names that are empty, so that a part may write nothing
		{sumOf(0, part(1, 0)), []string{""}, ""},
		{sumOf(5, part(1, 0)), []string{""}, "5"},
		{sumOf(-5, part(1, 0)), []string{""}, "-5"},
		{sumOf(5, part(-1, 0)), []string{""}, "- + 5"},
		{sumOf(0, part(-1, 0)), []string{""}, "-"},
		{sumOf(0, part(2, 0)), []string{""}, "2*"},
		{sumOf(-3, part(1, 0), part(1, 1), part(-1, 2)), []string{"", "", "z"}, "-z - 3"},
		{sumOf(0, part(1, 0), part(1, 1), part(1, 2)), []string{"", "y", ""}, "y + "},
	} {
		if got := term.Text(x.t, x.names); got != x.want {
			t.Errorf("Text(%v) = %q, want %q", x.t, got, x.want)
		}
	}
}
