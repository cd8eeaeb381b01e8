package expr_test

import (
	"fmt"
	"math"
	"math/rand"
	"strings"
	"testing"

	"plumbline/api"
	"plumbline/expr"
	"plumbline/lex"
)

func TestP11_1At(t *testing.T) {
	ts := tokens("x < 2 # two")
	for _, c := range []struct {
		i    int
		want lex.Token
	}{
		{0, ts[0]}, {1, ts[1]}, {2, ts[2]}, {3, ts[3]}, {4, ts[3]}, {99, ts[3]}, {math.MaxInt, ts[3]}, {-1, ts[0]}, {-2, ts[0]}, {math.MinInt, ts[0]},
	} {
		cursor := expr.Cursor{Tokens: ts, I: c.i}
		if got := cursor.At(); got != c.want || cursor.I != c.i {
			t.Errorf("At with %d: %v", c.i, got)
		}
		cursor = expr.Cursor{Tokens: ts[:1], I: c.i}
		if got := cursor.At(); got != ts[0] { // a last token that is not End
			t.Errorf("At with %d, of one token: %v", c.i, got)
		}
		for _, none := range [][]lex.Token{nil, {}, ts[:0]} {
			cursor = expr.Cursor{Tokens: none, I: c.i}
			if got := cursor.At(); got != (lex.Token{Kind: 5}) {
				t.Errorf("At with %d, of none: %v", c.i, got)
			}
		}
	}
}

func TestP11_1TakeWant(t *testing.T) {
	ts := tokens("x := 2 G true - ->")
	for _, c := range []struct {
		i    int
		text string
		want bool
	}{
		{0, "x", true}, {0, "X", false}, {0, "", false}, {0, "x ", false}, {0, ":=", false},
		{1, ":=", true}, {1, ":", false}, {1, "=", false}, {2, "2", false}, {3, "G", true}, {3, "g", false}, {4, "true", true},
		{5, "-", true}, {5, "->", false}, {6, "->", true}, {6, "-", false}, {7, "", false}, {8, "", false}, {7, "->", false},
		{-1, "x", true}, {-7, ":=", false}, {math.MinInt, "x", true}, {99, "", false}, {math.MaxInt, "->", false},
	} {
		cursor := expr.Cursor{Tokens: ts, I: c.i}
		next, e := c.i, api.ErrWant
		if c.want {
			next, e = c.i+1, api.OK
		}
		if got := cursor.Take(c.text); got != c.want || cursor.I != next {
			t.Errorf("Take(%q) at %d: %v, then at %d", c.text, c.i, got, cursor.I)
		}
		cursor.I = c.i
		if got := cursor.Want(c.text); got != e || cursor.I != next {
			t.Errorf("Want(%q) at %d: %d, then at %d", c.text, c.i, got, cursor.I)
		}
	}
}

// TestP11_1TakeOfKinds: only of three kinds of tokens is one taken.
func TestP11_1TakeOfKinds(t *testing.T) {
	for kind, want := range map[int]bool{-1: false, 0: false, 1: true, 2: true, 3: false, 4: true, 5: false, 6: false, math.MaxInt: false} {
		for _, text := range []string{"", "x", "2", "odd text"} {
			cursor := expr.Cursor{Tokens: []lex.Token{{Kind: kind, Text: text}}}
			if cursor.Take(text) != want || cursor.Take(text+"y") {
				t.Errorf("kind %d, %q: %v", kind, text, !want)
			}
		}
	}
}

// TestP11_1TakeBeyondTheEnd: the last token is taken again and again.
func TestP11_1TakeBeyondTheEnd(t *testing.T) {
	ts := tokens("x y")[:2]
	cursor := expr.Cursor{Tokens: ts, I: 1}
	for i := range 5 {
		if cursor.Take("x") || !cursor.Take("y") || cursor.I != i+2 {
			t.Errorf("I is %d", cursor.I)
		}
	}
	cursor.I = math.MaxInt - 1
	for range 3 {
		if !cursor.Take("y") || cursor.Want("y") != api.OK || cursor.Take("x") || cursor.I != math.MaxInt {
			t.Errorf("I is %d", cursor.I)
		}
	}
}

func TestP11_1NoTokens(t *testing.T) {
	for _, c := range []*expr.Cursor{nil, {}, {I: -3, Known: true}, {I: 7, Tokens: []lex.Token{}}} {
		if got := c.At(); got != (lex.Token{Kind: lex.End}) {
			t.Errorf("At: %v", got)
		}
		for _, text := range []string{"", "x", "("} {
			if c.Take(text) || c.Want(text) != api.ErrWant {
				t.Errorf("%q is taken", text)
			}
		}
		ms, e := c.Sum()
		expect(t, "Sum", fmt.Sprint(ms, e), "[] 101")
		tree, e := c.Compare()
		expect(t, "Compare", fmt.Sprintln(told(tree), e), "{0} 101\n")
		tree, e = c.Cond()
		expect(t, "Cond", fmt.Sprintln(told(tree), e), "{0} 101\n")
	}
}

// results tells what the three parsers of a Cursor return, and where they leave it.
func results(c expr.Cursor) string {
	var all []string
	s, k, o := c, c, c
	ms, e := s.Sum()
	all = append(all, fmt.Sprint(toldSum(ms), codes[e], s.I))
	t, e := k.Compare()
	all = append(all, fmt.Sprint(told(t), codes[e], k.I))
	t, e = o.Cond()
	return strings.Join(append(all, fmt.Sprint(told(t), codes[e], o.I)), "\n")
}

// followed tells what they are to return.
func followed(c expr.Cursor) string {
	var all []string
	first := machine{c.Tokens, c.I, c.Vars, c.Known}
	s, k, o := first, first, first
	ms, e := s.sum()
	all = append(all, fmt.Sprint(toldSum(ms), codes[e], s.i))
	t, e := k.compare()
	all = append(all, fmt.Sprint(told(t), codes[e], k.i))
	t, e = o.cond()
	return strings.Join(append(all, fmt.Sprint(told(t), codes[e], o.i)), "\n")
}

func expectFollowed(t *testing.T, c expr.Cursor) string {
	t.Helper()
	want := followed(c)
	expect(t, fmt.Sprintf("%q at %d with %v, %v", lex.Spell(c.Tokens), c.I, c.Vars, c.Known), results(c), want)
	return want
}

// token is one that often stands in conditions.
func token(r *rand.Rand) string {
	return one(r, "x", "y", "z", "in", "true", "false", "0", "1", "20", "+", "-", "*", "=", "!=", "<", "<=", ">", ">=", "(", ")", "!", "&", "|", "x", "1", "G", "@", ":=", ";", ",", "..")
}

// changed is a text with some tokens replaced, left out or added.
func changed(r *rand.Rand, ts []lex.Token, changes int) []lex.Token {
	var texts []string
	for _, t := range ts {
		texts = append(texts, t.Text)
	}
	for range changes {
		i := r.Intn(len(texts))
		switch r.Intn(3) {
		case 0:
			texts[i] = token(r)
		case 1:
			texts[i] = ""
		case 2:
			texts[i] += " " + token(r)
		}
	}
	return tokens(strings.Join(texts, " "))
}

func TestP11_1CursorByRules(t *testing.T) {
	r := rand.New(rand.NewSource(5))
	counts := map[string]int{}
	for i, tree := range trees(6000) {
		ts := changed(r, tokens(printed(tree)), i%4)
		c := expr.Cursor{Tokens: ts, Vars: []string{"y", "x", "x", "x1", ""}[:r.Intn(6)], Known: r.Intn(2) == 0}
		want := expectFollowed(t, c)
		for _, name := range []string{"OK", "ErrWant", "ErrName"} {
			if strings.Contains(want, name) {
				counts[name]++
			}
		}
		for range 3 {
			c.I = r.Intn(len(ts)+6) - 3
			c.Tokens = ts[:r.Intn(len(ts)+1)] // without End
			expectFollowed(t, c)
		}
		c.I = []int{math.MaxInt, math.MinInt, math.MaxInt - 1}[i%3]
		expectFollowed(t, c)
	}
	if counts["OK"] < 1000 || counts["ErrWant"] < 1000 || counts["ErrName"] < 500 {
		t.Errorf("%v", counts)
	}
}

func TestP11_1CursorOfRandomTokens(t *testing.T) {
	r := rand.New(rand.NewSource(6))
	for range 30000 {
		var texts []string
		for range r.Intn(8) {
			texts = append(texts, token(r))
		}
		ts := tokens(strings.Join(texts, " "))
		expectFollowed(t, expr.Cursor{Tokens: ts, Vars: []string{"x"}, Known: r.Intn(2) == 0})
	}
}

// TestP11_1CursorOfOneToken: each token, as the last one, stands there forever.
func TestP11_1CursorOfOneToken(t *testing.T) {
	for _, s := range []string{"x", "true", "in", "1", "+", "-", "*", "=", "(", ")", "!", "&", "|", "G", ""} {
		for _, before := range []string{"", "x =", "x +", "x = 1 |", "(", "! !", "2 *", "( x = 1"} {
			ts := tokens(before + " " + s)
			for _, i := range []int{0, -1, -70, len(ts), 1000, math.MinInt, math.MaxInt, math.MaxInt - 30} {
				expectFollowed(t, expr.Cursor{Tokens: ts[:len(ts)-1], I: i})
			}
		}
	}
}

// TestP11_1CursorOfOddTokens: what has the kind of a number or a name, but not its
// text, is none.
func TestP11_1CursorOfOddTokens(t *testing.T) {
	end := lex.Token{Kind: lex.End}
	for _, odd := range []lex.Token{
		{Kind: lex.Num}, {Kind: lex.Num, Text: "007"}, {Kind: lex.Num, Text: "x"}, {Kind: lex.Num, Text: strings.Repeat("1", 61)},
		{Kind: lex.Word}, {Kind: lex.Word, Text: "X"}, {Kind: lex.Word, Text: "true "}, {Kind: lex.Word, Text: "a b"}, {Kind: lex.Word, Text: "7"},
		{Kind: lex.Word, Text: strings.Repeat("w", 21)}, {Kind: 0, Text: "x"}, {Kind: 6, Text: "1"}, {Kind: lex.Big, Text: "x"}, {Kind: lex.End, Text: "x"},
	} {
		for _, c := range []struct {
			ts []lex.Token
			i  int
		}{
			{[]lex.Token{odd, end}, 0},
			{append(tokens("2 *")[:2], odd, end), 2},
			{append(tokens("x -")[:2], odd, end), 2},
		} {
			cursor := expr.Cursor{Tokens: c.ts}
			ms, e := cursor.Sum()
			expect(t, fmt.Sprint(c.ts), fmt.Sprint(ms, e, cursor.I), fmt.Sprint("[] 101 ", c.i))
		}
	}
}

func TestP11_4CursorLeavesArguments(t *testing.T) {
	ts := append(tokens("x + 2*y < 3 & !(y = x) | z > 0"), tokens("spare tokens")...)
	vars := []string{"y", "x", "spare"}
	before := fmt.Sprint(ts, vars)
	c := expr.Cursor{Tokens: ts[:len(ts)-3], Vars: vars[:2], Known: true}
	for i := -1; i < len(ts); i++ {
		expectFollowed(t, expr.Cursor{Tokens: c.Tokens, I: i, Vars: c.Vars, Known: i%2 == 0})
	}
	expect(t, "arguments", fmt.Sprint(ts, vars), before)
	got, e := c.Cond()
	if e != api.ErrName || len(c.Tokens) != len(ts)-3 || len(c.Vars) != 2 || !c.Known {
		t.Errorf("%v, %d, %v", got, e, c)
	}
	c.I, c.Known = 0, false
	got, _ = c.Cond()
	want := told(got)
	clear(ts)
	clear(vars)
	expect(t, "the result", told(got), want)
}
