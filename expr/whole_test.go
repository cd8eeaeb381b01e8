package expr_test

import (
	"fmt"
	"testing"

	"plumbline/api"
	"plumbline/expr"
	"plumbline/lex"
)

// whole tells all that Whole returns.
func whole[T any](s string, vars []string, known bool, take func(*expr.Cursor) (T, api.Errno)) string {
	got, at, e := expr.Whole(s, vars, known, take)
	var none T
	if w := wrong(fmt.Sprint(got), fmt.Sprint(none), at, e); w != "" {
		return w
	}
	return fmt.Sprint(got)
}

// word takes one token of any kind but End, and returns its text.
func word(c *expr.Cursor) (string, api.Errno) {
	t := c.At()
	if t.Kind == lex.End {
		return "none", api.ErrRange
	}
	c.I++
	return t.Text, api.OK
}

func TestP11_1Whole(t *testing.T) {
	for _, c := range []struct{ s, want string }{
		{"x", "x"}, {" 7 # seven", "7"}, {"G", "G"}, {"->", "->"}, {"x y", "ErrWant at 1:3"}, {"x\n\n ;", "ErrWant at 3:2"}, {"x x x", "ErrWant at 1:3"},
		{"", "ErrRange at 1:1"}, {"\n #", "ErrRange at 2:3"}, {"?", "ErrSign at 1:1"}, {"x ?", "ErrSign at 1:3"}, {"x 01", "ErrForm at 1:3"},
	} {
		expect(t, c.s, whole(c.s, nil, false, word), c.want)
	}
}

// TestP11_1WholeOfOtherTakes: takes that do less than those of this layer, or more.
func TestP11_1WholeOfOtherTakes(t *testing.T) {
	nothing := func(*expr.Cursor) (int, api.Errno) { return 7, api.OK }
	expect(t, "nothing of nothing", whole("", nil, false, nothing), "7")
	expect(t, "nothing of x", whole(" x", nil, false, nothing), "ErrWant at 1:2")
	fails := func(*expr.Cursor) ([]int, api.Errno) { return []int{7}, api.ErrZero }
	if got, at, e := expr.Whole("\n x y", nil, false, fails); len(got) != 0 || at != (api.Pos{Line: 2, Col: 2}) || e != api.ErrZero {
		t.Errorf("%v, %v, %d", got, at, e)
	}
	jumps := func(to int) func(*expr.Cursor) (api.Pos, api.Errno) {
		return func(c *expr.Cursor) (api.Pos, api.Errno) {
			c.I = to
			return c.At().At, api.OK
		}
	}
	expect(t, "to the end", whole("x y", nil, false, jumps(2)), "{1 4}")
	expect(t, "beyond the end", whole("x y", nil, false, jumps(99)), "{1 4}")
	expect(t, "to the second", whole("x y", nil, false, jumps(1)), "ErrWant at 1:3")
	expect(t, "before the first", whole("x y", nil, false, jumps(-9)), "ErrWant at 1:1")
	never := func(*expr.Cursor) (int, api.Errno) {
		t.Error("take is called for a text without tokens")
		return 0, api.OK
	}
	expect(t, "?", whole("x ?", nil, false, never), "ErrSign at 1:3")
	forgets := func(c *expr.Cursor) (int, api.Errno) {
		c.Tokens = nil
		return 3, api.OK
	}
	expect(t, "no tokens", whole("x y", nil, false, forgets), "3")
}

func TestP11_1WholeWithoutTake(t *testing.T) {
	var none func(*expr.Cursor) (int, api.Errno)
	for s, want := range map[string]api.Errno{"": api.ErrArg, "x": api.ErrArg, "x ?": api.ErrSign, "01": api.ErrForm} {
		if got, at, e := expr.Whole(s, nil, true, none); got != 0 || e != want || (at == api.Pos{}) != (want == api.ErrArg) {
			t.Errorf("%q: %d, %v, %d", s, got, at, e)
		}
	}
}

func TestP11_1WholeOfCursor(t *testing.T) {
	vars := []string{"x", "y", "x"}
	got, _, _ := expr.Whole("x < 1", vars, true, func(c *expr.Cursor) (expr.Cursor, api.Errno) {
		copied := *c
		c.I = 3
		return copied, api.OK
	})
	expect(t, "the Cursor", fmt.Sprint(got), fmt.Sprint(expr.Cursor{Tokens: tokens("x < 1"), Vars: vars, Known: true}))
}

func TestP11_1KnownNames(t *testing.T) {
	for _, c := range []struct {
		s     string
		vars  []string
		known bool
		want  string
	}{
		{"x < 1", []string{"x"}, true, told(cmp(many(1), api.Lt, sum(plus("1", ""))))},
		{"x < 1", []string{"y", "x", "x"}, true, told(cmp(many(1), api.Lt, sum(plus("1", ""))))},
		{"x < 1", nil, false, told(cmp(many(1), api.Lt, sum(plus("1", ""))))},
		{"x < 1", []string{"y"}, false, told(cmp(many(1), api.Lt, sum(plus("1", ""))))},
		{"x < 1", nil, true, "ErrName at 1:1"}, {"x < 1", []string{"y", "", "xx", "X"}, true, "ErrName at 1:1"}, {"1 < 2*x", []string{"y"}, true, "ErrName at 1:7"}, {"y + x < 1", []string{"y"}, true, "ErrName at 1:5"},
		{"y = 1 & !(y = 2 | -x = 3)", []string{"y"}, true, "ErrName at 1:20"}, {"y = 1 &\n x", []string{"y"}, true, "ErrName at 2:2"},
		{"1 < 2 | true", nil, true, told(or(cmp(sum(plus("1", "")), api.Lt, sum(plus("2", ""))), yes()))},
		// of several errors, the first; of several at the same token, the first in their order
		{"x <", nil, true, "ErrName at 1:1"}, {"< x", nil, true, "ErrWant at 1:1"}, {"y < * x", []string{"y"}, true, "ErrWant at 1:5"}, {"true true x", nil, true, "ErrWant at 1:6"}, {"in = 1", []string{"in"}, true, "ErrWant at 1:1"}, {"true", []string{"true"}, true, told(yes())},
		{"x ?", nil, true, "ErrSign at 1:3"},
	} {
		got, at, e := expr.Whole(c.s, c.vars, c.known, (*expr.Cursor).Cond)
		text := wrong(told(got), told(api.Tree{}), at, e)
		if text == "" {
			text = told(got)
		}
		expect(t, c.s, text, c.want)
	}
	for end, want := range map[string]string{"y": "ErrMany at 1:129", "x": "ErrMany at 1:129", "1": "ErrMany at 1:129", "true": "ErrWant at 1:129", "2*y": "ErrMany at 1:129", "+ y": "ErrWant at 1:129"} {
		s := ""
		for range 64 {
			s += "x+"
		}
		expect(t, s+end, whole(s+end, []string{"x"}, true, (*expr.Cursor).Sum), want)
	}
}

// TestP11_4WholeCopiesVars: take can return the names, or change them.
func TestP11_4WholeCopiesVars(t *testing.T) {
	all := []string{"x", "y", "spare"}
	got, _, e := expr.Whole("", all[:2], true, func(c *expr.Cursor) ([]string, api.Errno) { return c.Vars, api.OK })
	if e != api.OK || fmt.Sprint(got) != "[x y]" {
		t.Errorf("%v, %d", got, e)
	}
	for i := range got[:cap(got)] {
		got[:cap(got)][i] = "z"
	}
	expr.Whole("", all[:2], true, func(c *expr.Cursor) (int, api.Errno) {
		c.Vars[0] = "z"
		c.Vars = append(c.Vars, "z")
		return 0, api.OK
	})
	expect(t, "the names", fmt.Sprint(all), "[x y spare]")
}
