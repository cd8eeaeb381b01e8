package expr_test

import (
	"fmt"
	"strings"
	"testing"

	"plumbline/api"
	"plumbline/expr"
)

func TestP11_1ParseSum(t *testing.T) {
	sixty := "1" + strings.Repeat("0", 59)
	for _, c := range []struct {
		s    string
		want []api.Mono
	}{
		{"x", sum(plus("", "x"))}, {"-x", sum(minus("", "x"))}, {"7", sum(plus("7", ""))}, {"-7", sum(minus("7", ""))}, {"0", sum(plus("0", ""))}, {"-0", sum(minus("0", ""))},
		{"3*x", sum(plus("3", "x"))}, {"-3 * x", sum(minus("3", "x"))}, {"0*x", sum(plus("0", "x"))}, {"1*x", sum(plus("1", "x"))}, {sixty + "*y", sum(plus(sixty, "y"))},
		{"x + 2", sum(plus("", "x"), plus("2", ""))}, {"x-2", sum(plus("", "x"), minus("2", ""))}, {"2x1", nil}, {"- x - y + 3*z", sum(minus("", "x"), minus("", "y"), plus("3", "z"))},
		{"x+x+x", many(3)}, {"1 + 1 - 1", sum(plus("1", ""), plus("1", ""), minus("1", ""))}, {"# a\n x #\n\t+\n2", sum(plus("", "x"), plus("2", ""))},
		{"trues", sum(plus("", "trues"))}, {"longer_name_20_bytes", sum(plus("", "longer_name_20_bytes"))}, {strings.Repeat("x+", 63) + "x", many(64)}, {"-" + strings.Repeat("x+", 63) + "x", append(sum(minus("", "x")), many(63)...)},
	} {
		if c.want == nil {
			expect(t, c.s, readSum(c.s), "ErrWant at 1:2")
		} else {
			expect(t, c.s, readSum(c.s), toldSum(c.want))
		}
	}
}

func TestP11_1ParseSumErrors(t *testing.T) {
	full := strings.Repeat("x+", 63) + "x"
	for _, c := range []struct{ s, want string }{
		{"", "ErrWant at 1:1"}, {" # c", "ErrWant at 1:5"}, {"-", "ErrWant at 1:2"}, {"--x", "ErrWant at 1:2"}, {"+x", "ErrWant at 1:1"}, {"x +", "ErrWant at 1:4"}, {"x + + y", "ErrWant at 1:5"}, {"x - -y", "ErrWant at 1:5"}, {"x + -1", "ErrWant at 1:5"},
		{"2 *", "ErrWant at 1:4"}, {"2 * 3", "ErrWant at 1:5"}, {"x * 2", "ErrWant at 1:3"}, {"x * y", "ErrWant at 1:3"}, {"2 * x * y", "ErrWant at 1:7"}, {"2 * -x", "ErrWant at 1:5"}, {"2 * true", "ErrWant at 1:5"}, {"* x", "ErrWant at 1:1"},
		{"true", "ErrWant at 1:1"}, {"x + in", "ErrWant at 1:5"}, {"end", "ErrWant at 1:1"}, {"(x)", "ErrWant at 1:1"}, {"X", "ErrWant at 1:1"}, {"x y", "ErrWant at 1:3"}, {"x 2", "ErrWant at 1:3"}, {"2 x", "ErrWant at 1:3"}, {"x < 1", "ErrWant at 1:3"}, {"x\n)", "ErrWant at 2:1"}, {"xG", "ErrWant at 1:2"},
		// 65 monos; of several errors at the same token, the first in their order
		{full + "+x", "ErrMany at 1:129"}, {full + " - 7", "ErrMany at 1:131"}, {full + "+", "ErrWant at 1:129"}, {full + "+(", "ErrWant at 1:129"}, {full + "+true", "ErrWant at 1:129"}, {full + "+-x", "ErrWant at 1:129"}, {full + "+\n\nx+", "ErrMany at 3:1"}, {full + "*x", "ErrWant at 1:128"},
		{"-" + full + "+2*x", "ErrMany at 1:130"}, {full + " y", "ErrWant at 1:129"},
		// those of layer 10, wherever they are
		{"x x ?", "ErrSign at 1:5"}, {") 007", "ErrForm at 1:3"}, {full + "+x " + strings.Repeat("w", 21), "ErrLong at 1:131"}, {"x\r", "ErrSign at 1:2"}, {strings.Repeat(" ", 16384) + "x", "ErrLong at 1:1"}, {"x + " + strings.Repeat("7", 61), "ErrLong at 1:5"},
	} {
		expect(t, c.s, readSum(c.s), c.want)
	}
}

func TestP11_1ParseCond(t *testing.T) {
	a, b, c, d := is("a", "1"), is("b", "2"), is("c", "3"), is("d", "4")
	two := cmp(sum(plus("", "x"), plus("2", "")), api.Le, sum(plus("3", "y")))
	for _, x := range []struct {
		s    string
		want api.Tree
	}{
		{"true", yes()}, {"false", no()}, {"a = 1", a}, {"(a = 1)", a}, {"(((true)))", yes()},
		{"x != y", cmp(sum(plus("", "x")), api.Ne, sum(plus("", "y")))}, {"x < y", cmp(sum(plus("", "x")), api.Lt, sum(plus("", "y")))},
		{"x<=-y", cmp(sum(plus("", "x")), api.Le, sum(minus("", "y")))}, {"x>y", cmp(sum(plus("", "x")), api.Gt, sum(plus("", "y")))},
		{"-x >= -1 - y", cmp(sum(minus("", "x")), api.Ge, sum(minus("1", ""), minus("", "y")))},
		{"x + 2 <= 3*y & !(a = 1 | true)", and(two, not(or(a, yes())))},
		{"!a = 1", not(a)}, {"!!a=1", not(not(a))}, {"! ! true", not(not(yes()))}, {"!(a=1)", not(a)}, {"!-a = 1", not(cmp(sum(minus("", "a")), api.Eq, sum(plus("1", ""))))},
		{"a=1&b=2", and(a, b)}, {"a=1|b=2", or(a, b)}, {"!a=1&b=2", and(not(a), b)}, {"!a=1|!b=2", or(not(a), not(b))}, {"!(a=1&b=2)", not(and(a, b))},
		{"a=1&b=2&c=3", and(and(a, b), c)}, {"a=1|b=2|c=3", or(or(a, b), c)}, {"a=1&(b=2&c=3)", and(a, and(b, c))}, {"a=1|(b=2|c=3)", or(a, or(b, c))}, {"(a=1&b=2)&c=3", and(and(a, b), c)},
		{"a=1|b=2&c=3", or(a, and(b, c))}, {"a=1&b=2|c=3", or(and(a, b), c)}, {"a=1&(b=2|c=3)", and(a, or(b, c))}, {"(a=1|b=2)&c=3", and(or(a, b), c)}, {"a=1&b=2|c=3&d=4", or(and(a, b), and(c, d))},
		{"a=1&b=2&c=3&d=4", and(and(and(a, b), c), d)}, {"a=1|b=2|c=3|d=4", or(or(or(a, b), c), d)}, {"a=1|b=2&c=3|d=4", or(or(a, and(b, c)), d)}, {"true&false|true", or(and(yes(), no()), yes())},
	} {
		expect(t, x.s, readCond(x.s), told(x.want))
	}
}

func TestP11_1ParseCondErrors(t *testing.T) {
	for _, c := range []struct{ s, want string }{
		{"x <", "ErrWant at 1:4"}, {"", "ErrWant at 1:1"}, {"x", "ErrWant at 1:2"}, {"x + 1", "ErrWant at 1:6"}, {"7", "ErrWant at 1:2"}, {"< 1", "ErrWant at 1:1"}, {"x < < 1", "ErrWant at 1:5"}, {"x = 1 = 2", "ErrWant at 1:7"}, {"x := 1", "ErrWant at 1:3"}, {"x == 1", "ErrWant at 1:4"}, {"x => 1", "ErrWant at 1:4"},
		{"x < true", "ErrWant at 1:5"}, {"true < x", "ErrWant at 1:6"}, {"true true", "ErrWant at 1:6"}, {"(true", "ErrWant at 1:6"}, {"true)", "ErrWant at 1:5"}, {"()", "ErrWant at 1:2"}, {"(true))", "ErrWant at 1:7"}, {"(x) = 1", "ErrWant at 1:3"}, {"(x = 1", "ErrWant at 1:7"}, {"x = (1)", "ErrWant at 1:5"},
		{"true &", "ErrWant at 1:7"}, {"& true", "ErrWant at 1:1"}, {"true | | true", "ErrWant at 1:8"}, {"true & | true", "ErrWant at 1:8"}, {"true && true", "ErrWant at 1:7"}, {"!", "ErrWant at 1:2"}, {"true !", "ErrWant at 1:6"}, {"true & !", "ErrWant at 1:9"}, {"!&", "ErrWant at 1:2"}, {"true (", "ErrWant at 1:6"},
		{"x < 1 \n & \n in = 2", "ErrWant at 3:2"}, {"G x = 1", "ErrWant at 1:1"}, {"x = 1 U y = 2", "ErrWant at 1:7"}, {"@p.a", "ErrWant at 1:1"}, {"true -> true", "ErrWant at 1:6"}, {"trues", "ErrWant at 1:6"}, {"x = 1;", "ErrWant at 1:6"}, {"x < y - ", "ErrWant at 1:9"},
		{strings.Repeat("x+", 64) + "x = 1", "ErrMany at 1:129"}, {"1 = " + strings.Repeat("x+", 64) + "x &", "ErrMany at 1:133"}, {"!(a = 1 | " + strings.Repeat("1-", 64) + "1 < x", "ErrMany at 1:139"}, {strings.Repeat("1+", 64) + "= 1", "ErrWant at 1:129"},
		{"x < ?", "ErrSign at 1:5"}, {"< 01", "ErrForm at 1:3"}, {"x <\n= 1", "ErrWant at 2:1"},
	} {
		expect(t, c.s, readCond(c.s), c.want)
	}
}

// TestP11_1Levels: 60 levels are allowed, of parentheses, of "!", and of both.
func TestP11_1Levels(t *testing.T) {
	deny := func(n int) api.Tree { return times(n, is("x", "1"), not) }
	for _, c := range []struct {
		open, close string
		n           int // levels of each open
		denied      int
	}{{"(", ")", 1, 0}, {"!", "", 1, 1}, {"!(", ")", 2, 1}, {"(!", ")", 2, 1}, {"((!", "))", 3, 1}, {"!!(", ")", 3, 2}} {
		at := 60 / c.n
		inner := func(n int, s string) string {
			return strings.Repeat(c.open, n) + s + strings.Repeat(c.close, n)
		}
		expect(t, c.open, readCond(inner(at, "x=1")), told(deny(at*c.denied)))
		expect(t, c.open, readCond(inner(at, "x=1|x=1")), told(widest(c.open, at, c.denied)))
		for _, more := range []string{"!x=1", "(x=1)", "!", "(", "((", "()"} {
			deep := fmt.Sprintf("ErrDeep at 1:%d", len(c.open)*at+1)
			expect(t, c.open+more, readCond(inner(at, more)), deep)
			expect(t, c.open+more, readCond(inner(at+5, more)), fmt.Sprintf("ErrDeep at 1:%d", len(c.open)*at+1))
			expect(t, c.open+more, readCond("x = 1 & "+inner(at, more)), fmt.Sprintf("ErrDeep at 1:%d", len(c.open)*at+9))
		}
		// not one more level, and another error at the same place
		for _, more := range []string{")", "&", "", "in"} {
			expect(t, c.open+more, readCond(strings.Repeat(c.open, at)+more), fmt.Sprintf("ErrWant at 1:%d", len(c.open)*at+1))
		}
		expect(t, c.open, readCond(strings.Repeat(c.open, at)+"x ("), fmt.Sprintf("ErrWant at 1:%d", len(c.open)*at+3))
		expect(t, c.open, readCond(strings.Repeat(c.open, at)+"x !"), fmt.Sprintf("ErrWant at 1:%d", len(c.open)*at+3))
		expect(t, c.open, readCond(strings.Repeat(c.open, at)+"true !"), fmt.Sprintf("ErrWant at 1:%d", len(c.open)*at+6))
	}
}

// widest is the tree of a text of so many times open, then x=1|x=1.
func widest(open string, times int, denied int) api.Tree {
	t := is("x", "1")
	if strings.HasSuffix(open, "(") { // the "|" is in the parentheses
		t = or(t, t)
	}
	for range times * denied {
		t = not(t)
	}
	switch {
	case open == "!": // and here behind all of them
		t = or(t, is("x", "1"))
	case strings.HasSuffix(open, "!"): // and here in the last parentheses, behind "!"
		t = or(not(is("x", "1")), is("x", "1"))
		for range times - 1 {
			t = not(t)
		}
	}
	return t
}

// TestP11_1LevelsEnd: a level ends at its ")", or behind what "!" stands before.
func TestP11_1LevelsEnd(t *testing.T) {
	deny := times(60, yes(), not)
	not60, in60 := strings.Repeat("!", 60)+"true", strings.Repeat("(", 60)+"true"+strings.Repeat(")", 60)
	for _, c := range []struct {
		s    string
		want api.Tree
	}{
		{not60 + "&" + not60 + "|" + not60, or(and(deny, deny), deny)},
		{in60 + "&" + in60 + "|" + in60, or(and(yes(), yes()), yes())},
		{not60 + "&" + in60, and(deny, yes())},
		{"(" + not60[1:] + "&" + not60[1:] + ")&" + not60, and(and(times(59, yes(), not), times(59, yes(), not)), deny)},
		{"!(" + not60[2:] + ")|" + not60, or(times(59, yes(), not), deny)},
	} {
		expect(t, c.s, readCond(c.s), told(c.want))
	}
	expect(t, "61", readCond(not60+"&!"+not60), "ErrDeep at 1:126")
	expect(t, "61", readCond("("+not60[1:]+"|"+not60+")"), "ErrDeep at 1:125")
}

func TestP11_1ParseLongTexts(t *testing.T) {
	n := 16384 / 5 // with "true|" and "true&"
	for _, c := range []struct {
		sign string
		kind int
	}{{"|", api.TOr}, {"&", api.TAnd}} {
		tree, _, e := expr.ParseCond(strings.Repeat("true"+c.sign, n-1) + "true")
		for range n - 1 {
			if e != api.OK || tree.Kind != c.kind || len(tree.Kids) != 2 || told(tree.Kids[1]) != told(yes()) {
				t.Fatal("not the tree")
			}
			tree = tree.Kids[0]
		}
		expect(t, "the first", told(tree), told(yes()))
	}
	expect(t, "long", readCond(strings.Repeat("true&", n+1)), "ErrLong at 1:1")
	expect(t, "long", readCond(strings.Repeat(" ", 16380)+"true"), told(yes()))
	expect(t, "long", readCond(strings.Repeat(" ", 16381)+"true"), "ErrLong at 1:1")
	expect(t, "long", readSum(strings.Repeat(" ", 16383)+"x"), toldSum(many(1)))
	expect(t, "long", readSum(strings.Repeat(" ", 16384)+"x"), "ErrLong at 1:1")
	expect(t, "deep", readCond(strings.Repeat("(", 16384)), "ErrDeep at 1:61")
	expect(t, "deep", readCond(strings.Repeat("!", 16384)), "ErrDeep at 1:61")
	expect(t, "many", readSum(strings.Repeat("x+", 8192)), "ErrMany at 1:129")
}
