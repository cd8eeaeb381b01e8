package lex_test

import (
	"fmt"
	"math/rand"
	"regexp"
	"slices"
	"strings"
	"testing"

	"plumbline/api"
	"plumbline/lex"
)

func TestP10_1Kinds(t *testing.T) {
	if lex.Word != 1 || lex.Sign != 2 || lex.Num != 3 || lex.Big != 4 || lex.End != 5 {
		t.Error("the kinds are numbered otherwise")
	}
}

func TestP10_1All(t *testing.T) {
	for _, c := range []struct{ s, want string }{
		{"", "End 1:1"}, {" ", "End 1:2"}, {"\n", "End 2:1"}, {"\t\t", "End 1:3"}, {"\n\n ", "End 3:2"}, {"#", "End 1:2"}, {"# é", "End 1:5"},
		{"x1:=-2", "Word x1 1:1, Sign := 1:3, Sign - 1:5, Num 2 1:6, End 1:7"},
		{"x <", "Word x 1:1, Sign < 1:3, End 1:4"},
		{"x < \t", "Word x 1:1, Sign < 1:3, End 1:6"},
		{"x\ny", "Word x 1:1, Word y 2:1, End 2:2"}, {"\tx\n\ty\n", "Word x 1:2, Word y 2:2, End 3:1"},
		// comments
		{"a # b\nc", "Word a 1:1, Word c 2:1, End 2:2"}, {"a#b\n#c\n  d", "Word a 1:1, Word d 3:3, End 3:4"}, {"a#b", "Word a 1:1, End 1:4"},
		{"# ? Z 007 \r\xff\x00 # \n1", "Num 1 2:1, End 2:2"}, {"#\n#\n", "End 3:1"}, {"##\n", "End 2:1"}, {"<#\n=", "Sign < 1:1, Sign = 2:1, End 2:2"},
		// words, numbers and Bigs beside each other
		{"a_1b_ b__ c0", "Word a_1b_ 1:1, Word b__ 1:7, Word c0 1:11, End 1:13"},
		{"12ab 0x", "Num 12 1:1, Word ab 1:3, Num 0 1:6, Word x 1:7, End 1:8"},
		{"XGFUR", "Big X 1:1, Big G 1:2, Big F 1:3, Big U 1:4, Big R 1:5, End 1:6"},
		{"aXb1G2", "Word a 1:1, Big X 1:2, Word b1 1:3, Big G 1:5, Num 2 1:6, End 1:7"},
		{"G(x)", "Big G 1:1, Sign ( 1:2, Word x 1:3, Sign ) 1:4, End 1:5"},
		{"true var ends", "Word true 1:1, Word var 1:6, Word ends 1:10, End 1:14"},
		{"0 10 9", "Num 0 1:1, Num 10 1:3, Num 9 1:6, End 1:7"},
		// signs that begin others
		{"->", "Sign -> 1:1, End 1:3"}, {"-", "Sign - 1:1, End 1:2"}, {"-->", "Sign - 1:1, Sign -> 1:2, End 1:4"}, {"- >", "Sign - 1:1, Sign > 1:3, End 1:4"},
		{"...", "Sign .. 1:1, Sign . 1:3, End 1:4"}, {"....", "Sign .. 1:1, Sign .. 1:3, End 1:5"}, {". ..", "Sign . 1:1, Sign .. 1:3, End 1:5"},
		{":=", "Sign := 1:1, End 1:3"}, {": =", "Sign : 1:1, Sign = 1:3, End 1:4"}, {"::==", "Sign : 1:1, Sign := 1:2, Sign = 1:4, End 1:5"},
		{"!==", "Sign != 1:1, Sign = 1:3, End 1:4"}, {"!!=", "Sign ! 1:1, Sign != 1:2, End 1:4"}, {"<=>=", "Sign <= 1:1, Sign >= 1:3, End 1:5"},
		{"=<", "Sign = 1:1, Sign < 1:2, End 1:3"}, {"=>", "Sign = 1:1, Sign > 1:2, End 1:3"}, {"<->", "Sign < 1:1, Sign -> 1:2, End 1:4"}, {"->=", "Sign -> 1:1, Sign = 1:3, End 1:4"},
		{"==", "Sign = 1:1, Sign = 1:2, End 1:3"}, {"||&&", "Sign | 1:1, Sign | 1:2, Sign & 1:3, Sign & 1:4, End 1:5"},
		{"(),;:.+*&|!@=<>/-", "Sign ( 1:1, Sign ) 1:2, Sign , 1:3, Sign ; 1:4, Sign : 1:5, Sign . 1:6, Sign + 1:7, Sign * 1:8, Sign & 1:9, Sign | 1:10, Sign ! 1:11, Sign @ 1:12, Sign = 1:13, Sign < 1:14, Sign > 1:15, Sign / 1:16, Sign - 1:17, End 1:18"},
	} {
		expect(t, c.s, read(c.s), c.want)
	}
}

func TestP10_1Errors(t *testing.T) {
	long, number := strings.Repeat("w", 21), strings.Repeat("7", 61)
	for _, c := range []struct{ s, want string }{
		{"a\n  ?", "ErrSign at 2:3"}, {"?", "ErrSign at 1:1"}, {"x\r\n", "ErrSign at 1:2"}, {"\r", "ErrSign at 1:1"}, {"a \xff", "ErrSign at 1:3"}, {"xé", "ErrSign at 1:2"},
		{"# é\né", "ErrSign at 2:1"}, {"_a", "ErrSign at 1:1"}, {"1_", "ErrSign at 1:2"}, {"+_", "ErrSign at 1:2"}, {"aB", "ErrSign at 1:2"}, {"GA", "ErrSign at 1:2"},
		{"\ufeffx", "ErrSign at 1:1"}, {"x\u00a0y", "ErrSign at 1:2"}, {"\x00", "ErrSign at 1:1"}, {"\v", "ErrSign at 1:1"}, {"\f", "ErrSign at 1:1"}, {"\\", "ErrSign at 1:1"},
		{"007", "ErrForm at 1:1"}, {"00", "ErrForm at 1:1"}, {"01x", "ErrForm at 1:1"}, {"x\n\t 10 00", "ErrForm at 2:6"}, {"-01", "ErrForm at 1:2"}, {"a 0 1 02", "ErrForm at 1:7"},
		{long, "ErrLong at 1:1"}, {"a\n " + long + "X", "ErrLong at 2:2"}, {number, "ErrLong at 1:1"}, {"x+" + number, "ErrLong at 1:3"},
		{"0" + number, "ErrLong at 1:1"}, {"0" + number[1:], "ErrLong at 1:1"}, {"0" + number[2:], "ErrForm at 1:1"}, {strings.Repeat("0", 61), "ErrLong at 1:1"}, {strings.Repeat("0", 60), "ErrForm at 1:1"},
		// the first error in the text
		{"? 007", "ErrSign at 1:1"}, {"007 ?", "ErrForm at 1:1"}, {long + "?", "ErrLong at 1:1"}, {"01 " + number, "ErrForm at 1:1"}, {number + " 01", "ErrLong at 1:1"}, {"?#?\n?", "ErrSign at 1:1"},
	} {
		expect(t, c.s, read(c.s), c.want)
	}
}

// TestP10_1EveryByte reads every byte alone, behind a word, and in a comment.
func TestP10_1EveryByte(t *testing.T) {
	for b := range 256 {
		c := string([]byte{byte(b)})
		alone, behind, after := "ErrSign at 1:1", "ErrSign at 1:2", "Num 1 2:1, End 2:2"
		switch {
		case strings.Contains("abcdefghijklmnopqrstuvwxyz", c):
			alone, behind = "Word "+c+" 1:1, End 1:2", "Word a"+c+" 1:1, End 1:3"
		case strings.Contains("0123456789", c):
			alone, behind = "Num "+c+" 1:1, End 1:2", "Word a"+c+" 1:1, End 1:3"
		case c == "_":
			behind = "Word a_ 1:1, End 1:3"
		case strings.Contains("XGFUR", c):
			alone, behind = "Big "+c+" 1:1, End 1:2", "Word a 1:1, Big "+c+" 1:2, End 1:3"
		case strings.Contains("(),;:.+*&|!@=<>/-", c):
			alone, behind = "Sign "+c+" 1:1, End 1:2", "Word a 1:1, Sign "+c+" 1:2, End 1:3"
		case strings.Contains(" \t#", c):
			alone, behind = "End 1:2", "Word a 1:1, End 1:3"
		case c == "\n":
			alone, behind, after = "End 2:1", "Word a 1:1, End 2:1", "Num 1 3:1, End 3:2"
		}
		expect(t, c, read(c), alone)
		expect(t, "a"+c, read("a"+c), behind)
		expect(t, "#"+c+"\n1", read("#"+c+"\n1"), after)
	}
}

func TestP10_1Limits(t *testing.T) {
	word, number := "w"+strings.Repeat("_", 19), "7"+strings.Repeat("0", 59)
	expect(t, word, read(word), "Word "+word+" 1:1, End 1:21")
	expect(t, number, read(number), "Num "+number+" 1:1, End 1:61")
	expect(t, "both", read(number+word+"X"+word), "Num "+number+" 1:1, Word "+word+" 1:61, Big X 1:81, Word "+word+" 1:82, End 1:102")
	for _, s := range []string{" ", "x ", "\n", "?", "0", "01", "a", "#", "é", "(", "\xff"} {
		long := strings.Repeat(s, 16385)
		expect(t, long, read(long[:16385]), "ErrLong at 1:1")
		expect(t, long, read(long[:16385]+s), "ErrLong at 1:1")
	}
	huge := strings.Repeat(" ", 1<<22)
	expect(t, huge, read(huge), "ErrLong at 1:1")
	for _, c := range []struct{ s, want string }{
		{strings.Repeat(" ", 16384), "End 1:16385"}, {strings.Repeat("\n", 16384), "End 16385:1"}, {strings.Repeat("#", 16384), "End 1:16385"},
		{strings.Repeat(" ", 16383) + "x", "Word x 1:16384, End 1:16385"}, {strings.Repeat("\n", 16383) + "x", "Word x 16384:1, End 16384:2"},
		{strings.Repeat("\n", 16383) + "?", "ErrSign at 16384:1"}, {strings.Repeat(" ", 16383) + "?", "ErrSign at 1:16384"}, {strings.Repeat("?", 16384), "ErrSign at 1:1"},
		{strings.Repeat(" ", 16382) + "01", "ErrForm at 1:16383"}, {strings.Repeat("a", 16384), "ErrLong at 1:1"}, {strings.Repeat(" ", 16363) + word + "x", "ErrLong at 1:16364"},
	} {
		expect(t, c.s, read(c.s), c.want)
	}
	ts, at, e := lex.All(strings.Repeat("(", 16384))
	if len(ts) != 16385 || at != (api.Pos{}) || e != api.OK {
		t.Errorf("%d tokens, %v, %d", len(ts), at, e)
	}
}

var pattern = regexp.MustCompile(`^(?:([a-z][a-z0-9_]*)|(->|:=|!=|<=|>=|\.\.|[(),;:.+*&|!@=<>/-])|([0-9]+)|([XGFUR]))`)
var between = regexp.MustCompile(`^(?s:[ \t\n]|#[^\n]*)*`)

// followed is what the document's words say of a text that is not too long.
func followed(s string) string {
	var ts []lex.Token
	for rest := s; ; {
		rest = rest[len(between.FindString(rest)):]
		done := s[:len(s)-len(rest)]
		at := api.Pos{Line: 1 + strings.Count(done, "\n"), Col: len(done) - strings.LastIndex(done, "\n")}
		if rest == "" {
			return shown(append(ts, lex.Token{Kind: lex.End, At: at}))
		}
		m := pattern.FindStringSubmatch(rest)
		switch {
		case m == nil:
			return wrong(api.ErrSign, at)
		case len(m[1]) > 20 || len(m[3]) > 60:
			return wrong(api.ErrLong, at)
		case len(m[3]) > 1 && m[3][0] == '0':
			return wrong(api.ErrForm, at)
		}
		ts = append(ts, lex.Token{Kind: slices.Index(m[1:], m[0]) + 1, Text: m[0], At: at})
		rest = rest[len(m[0]):]
	}
}

func TestP10_1AllByRules(t *testing.T) {
	counts := map[string]int{}
	for _, s := range texts(6000) {
		want := followed(s)
		expect(t, s, read(s), want)
		counts[want[:min(len(want), 7)]]++
	}
	for _, c := range []string{"ErrSign", "ErrForm", "ErrLong"} {
		if counts[c] < 100 {
			t.Errorf("only %d texts with %s", counts[c], c)
		}
	}
}

func TestP10_1AllOfBytesByRules(t *testing.T) {
	r := rand.New(rand.NewSource(1))
	for range 20000 {
		s := letters(r, "aX0-1>.:= <!\n#_", r.Intn(9))
		expect(t, s, read(s), followed(s))
	}
}

func TestP10_1Spell(t *testing.T) {
	word := func(s string) lex.Token { return lex.Token{Kind: lex.Word, Text: s} }
	for _, c := range []struct {
		ts   []lex.Token
		want string
	}{
		{nil, ""}, {[]lex.Token{}, ""}, {[]lex.Token{{Kind: lex.End}}, ""}, {[]lex.Token{word("x")}, "x"}, {[]lex.Token{word("x"), {Kind: lex.End}}, "x "},
		{[]lex.Token{{Text: "a b"}, {Kind: -5, Text: "?"}, {Kind: 9}, {}, {Kind: lex.Num, Text: "007"}}, "a b ?   007"},
		{[]lex.Token{{Kind: lex.Sign, Text: "-"}, {Kind: lex.Sign, Text: ">"}}, "- >"},
	} {
		expect(t, fmt.Sprint(c.ts), lex.Spell(c.ts), c.want)
	}
	ts, _, _ := lex.All("x1:=-2 # two\n;")
	expect(t, "a text", lex.Spell(ts), "x1 := - 2 ; ")
}

func TestP10_1Reserved(t *testing.T) {
	for _, s := range []string{"true", "false", "var", "in", "init", "proc", "loc", "end"} {
		if !lex.Reserved(s) {
			t.Errorf("%q is not reserved", s)
		}
		for _, other := range []string{s + " ", " " + s, s + "s", s[1:], s[:len(s)-1], strings.ToUpper(s), strings.ToUpper(s[:1]) + s[1:], s + "\x00", s + s} {
			if lex.Reserved(other) {
				t.Errorf("%q is reserved", other)
			}
		}
	}
	for _, s := range []string{"", "x", "X", "G", "not", "ini", "init_", "loc1", "at", "or", "and", "until"} {
		if lex.Reserved(s) {
			t.Errorf("%q is reserved", s)
		}
	}
}

func TestP10_1NameNumber(t *testing.T) {
	names := []string{"x", "z", "a_", "a1", "trues", "i", "inn", "x" + strings.Repeat("y", 19), "v0", "true_"}
	numbers := []string{"0", "1", "9", "10", "1" + strings.Repeat("0", 59), strings.Repeat("9", 60)}
	neither := []string{
		"", "true", "false", "var", "in", "init", "proc", "loc", "end", "x" + strings.Repeat("y", 20), "_", "_x", "X", "G", "xX", "Ax", "x ", " x", "x\n", "x#", "x-", "é", "xé", "x\xff", "x y", "x\x00",
		"00", "01", "007", "-1", "+1", "1 ", " 1", "1x", "1_", "1.", "1#", "1\n", "1" + strings.Repeat("0", 60), strings.Repeat("0", 60), strings.Repeat("0", 61), "٣", "1\xff", "-", "(", ":=", "?",
	}
	for _, s := range append(slices.Concat(names, numbers), neither...) {
		if got := lex.Name(s); got != slices.Contains(names, s) {
			t.Errorf("Name(%q) = %v", s, got)
		}
		if got := lex.Number(s); got != slices.Contains(numbers, s) {
			t.Errorf("Number(%q) = %v", s, got)
		}
	}
}

// TestP10_1NameNumberOfTokens: a text that is one token as a whole is what All says.
func TestP10_1NameNumberOfTokens(t *testing.T) {
	counts := map[string]int{}
	for _, s := range append(texts(2000), short(3)...) {
		kind := 0
		if ts, _, _ := lex.All(s); len(ts) == 2 && ts[0].Text == s {
			kind = ts[0].Kind
		}
		if got, want := lex.Name(s), kind == lex.Word && !lex.Reserved(s); got != want {
			t.Errorf("Name(%q) = %v", s, got)
		}
		if got, want := lex.Number(s), kind == lex.Num; got != want {
			t.Errorf("Number(%q) = %v", s, got)
		}
		counts[kinds[kind]]++
	}
	if counts["Word"] < 200 || counts["Num"] < 50 {
		t.Errorf("%v", counts)
	}
}

// short are all texts of up to n bytes of some.
func short(n int) []string {
	all := []string{""}
	for from := 0; n > 0; n-- {
		to := len(all)
		for _, s := range all[from:to] {
			for _, c := range []byte("inai019_X #\n-\xff") {
				all = append(all, s+string([]byte{c}))
			}
		}
		from = to
	}
	return all
}
