package word_test

import (
	"math"
	"math/rand"
	"testing"

	"plumbline/api"
	"plumbline/word"
)

func TestP15_1Holds(t *testing.T) {
	a, b, c := atom(0), atom(1), atom(2)
	until, free := of(api.TUntil, a, b), of(api.TFree, a, b)
	all, some, next := of(api.TAll, a), of(api.TSome, a), of(api.TNext, a)
	ab := wordOf("10", "01") // a, followed by b forever
	turns := wordOf("", "1 0")
	for i, x := range []struct {
		f    api.Ltl
		w    word.Word
		at   int
		want bool
	}{
		{until, ab, 0, true}, {of(api.TAll, b), ab, 0, false}, {of(api.TNext, of(api.TAll, b)), ab, 0, true}, {of(api.TAll, b), ab, 1, true}, {of(api.TAll, of(api.TSome, a)), turns, 0, true}, {of(api.TSome, of(api.TAll, a)), turns, 0, false}, {of(api.TAll, of(api.TImp, a, of(api.TNext, not(a)))), turns, 0, true},
		{yes(), ab, 0, true}, {no(), ab, 0, false}, {a, ab, 0, true}, {b, ab, 0, false}, {a, ab, 1, false}, {b, ab, 1, true}, {c, ab, 0, false}, {not(c), ab, 7, true},
		{of(api.TAnd, a, b), wordOf("", "11"), 0, true}, {of(api.TAnd, a, b), ab, 0, false}, {of(api.TAnd, b, a), ab, 0, false}, {of(api.TOr, a, b), ab, 0, true}, {of(api.TOr, b, a), ab, 0, true}, {of(api.TOr, b, c), ab, 0, false}, {of(api.TImp, a, b), ab, 0, false}, {of(api.TImp, b, a), ab, 0, true}, {of(api.TImp, b, c), ab, 0, true}, {of(api.TImp, a, a), ab, 0, true},
		// the next position of the last letter is the start of the cycle
		{next, wordOf("0", "0 1"), 0, false}, {next, wordOf("0", "0 1"), 1, true}, {next, wordOf("0", "0 1"), 2, false}, {next, wordOf("1", "0"), 1, false}, {next, wordOf("", "1"), 0, true}, {of(api.TNext, next), wordOf("0 0 1", "0"), 0, true}, {of(api.TNext, next), wordOf("", "1 0 0"), 1, true},
		// G and F
		{all, wordOf("", "1"), 0, true}, {all, wordOf("1", "1 1"), 0, true}, {all, wordOf("0", "1"), 0, false}, {all, wordOf("0", "1"), 1, true}, {all, wordOf("1", "1 0"), 0, false}, {all, wordOf("", "0 1"), 1, false}, {some, wordOf("1", "0"), 0, true}, {some, wordOf("1", "0"), 1, false}, {some, wordOf("0", "1 0"), 2, true}, {some, wordOf("", "0"), 0, false}, {some, wordOf("0", "0 1"), 0, true},
		// U: q is needed, and p up to but not including its position
		{until, wordOf("", "10"), 0, false}, {until, wordOf("", "01"), 0, true}, {until, wordOf("10 10", "01 00"), 0, true}, {until, wordOf("10 00", "01"), 0, false}, {until, wordOf("", "10 01"), 0, true}, {until, wordOf("", "00 01 10"), 2, false}, {until, wordOf("", "01 00 10"), 2, true}, {until, wordOf("00", "01"), 0, false}, {until, wordOf("11", "00"), 0, true}, {until, wordOf("", "10 10 11"), 1, true},
		// R: q up to and including the position of p, or forever
		{free, wordOf("", "01"), 0, true}, {free, wordOf("01 11", "00"), 0, true}, {free, wordOf("01 10", "00"), 0, false}, {free, wordOf("10", "01"), 0, false}, {free, wordOf("01", "01 00"), 0, false}, {free, wordOf("", "01 11 00"), 0, true}, {free, wordOf("", "11 00 01"), 2, true}, {free, wordOf("", "10 00 01"), 2, false}, {free, wordOf("11", "00"), 0, true}, {free, wordOf("00", "11"), 0, false},
		// positions
		{a, wordOf("1 0", "0"), -1, true}, {a, wordOf("1 0", "0"), math.MinInt, true}, {a, wordOf("0", "1 0"), -3, false}, {b, ab, math.MaxInt, true}, {a, wordOf("", "0 1"), 1 << 40, false}, {a, wordOf("", "0 1"), 1<<40 + 1, true}, {a, wordOf("", "0 1"), math.MaxInt, true}, {a, wordOf("0", "0 1"), math.MaxInt, false}, {a, wordOf("0 0", "1 0 0"), 2 + 3*1000, true}, {a, wordOf("0 0", "1 0 0"), 2 + 3*1000 + 1, false},
		// letters of different lengths, and atoms that they do not have
		{a, wordOf(".", "1"), 0, false}, {not(a), wordOf(".", "1"), 0, true}, {b, wordOf("1", "01"), 0, false}, {b, wordOf("1", "01"), 1, true}, {of(api.TAll, not(c)), wordOf("1 11 .", "11"), 0, true}, {of(api.TSome, c), wordOf("1 11 . 001", "11"), 0, true}, {atom(-1), wordOf("", "111"), 0, false}, {not(atom(-1)), wordOf("", "111"), 0, true}, {atom(math.MinInt), wordOf("", "1"), 0, false}, {atom(math.MaxInt), wordOf("", "1"), 0, false}, {atom(1), wordOf("", "1"), 0, false},
		// no word
		{yes(), wordOf("1", ""), 0, false}, {not(yes()), wordOf("1", ""), 0, false}, {not(no()), wordOf("", ""), 0, false}, {a, wordOf("1 1", ""), 1, false}, {not(a), word.Word{}, 3, false}, {of(api.TSome, a), wordOf("1", ""), -1, false}, {of(api.TFree, a, a), wordOf("1", ""), 0, false}, {of(99), wordOf("1", ""), 0, false},
		// missing, additional and unknown kids
		{of(api.TNot), ab, 0, true}, {of(api.TAnd), ab, 0, false}, {of(api.TAnd, a), ab, 0, false}, {of(api.TOr), ab, 0, false}, {of(api.TOr, a), ab, 0, true}, {of(api.TImp), ab, 0, true}, {of(api.TImp, a), ab, 0, false}, {of(api.TImp, b), ab, 0, true}, {of(api.TNext), ab, 0, false}, {of(api.TAll), ab, 0, false}, {of(api.TSome), ab, 0, false}, {of(api.TUntil), ab, 0, false}, {of(api.TUntil, yes()), ab, 0, false}, {of(api.TFree), ab, 0, false}, {of(api.TFree, yes()), ab, 0, false},
		{of(api.TNot, b, no()), ab, 0, true}, {of(api.TNot, a, no()), ab, 0, false}, {of(api.TAnd, a, a, no()), ab, 0, true}, {of(api.TOr, b, c, yes()), ab, 0, false}, {of(api.TImp, a, c, yes()), ab, 0, false}, {of(api.TNext, a, yes()), ab, 0, false}, {of(api.TAll, a, yes()), ab, 0, false}, {of(api.TSome, c, yes()), ab, 0, false}, {of(api.TUntil, a, c, yes()), ab, 0, false}, {of(api.TFree, c, a, yes()), ab, 0, false}, {api.Ltl{Kind: api.TCmp, Kids: []api.Ltl{no()}}, ab, 0, true}, {of(api.TTrue, no()), ab, 0, true}, {of(api.TFalse, yes()), ab, 0, false},
		{of(api.TAt), ab, 0, false}, {api.Ltl{Kind: api.TAt, Prop: 0, Kids: []api.Ltl{yes()}}, ab, 0, false}, {of(13, yes(), yes()), ab, 0, false}, {of(-1), ab, 0, false}, {not(of(-1)), ab, 0, true}, {not(of(api.TAt, a)), ab, 0, true}, {of(api.TOr, of(math.MaxInt), a), ab, 0, true}, {of(api.TAll, of(api.TImp, of(math.MinInt), no())), ab, 0, true},
	} {
		if got := word.Holds(x.f, x.w, x.at); got != x.want {
			t.Errorf("case %d: %s at %d of %s: %v", i, told(x.f), x.at, toldWord(x.w), got)
		}
		if x.at < 1<<20 && holds(x.f, x.w, max(x.at, 0)) != x.want {
			t.Errorf("case %d: %s at %d of %s: another want", i, told(x.f), x.at, toldWord(x.w))
		}
	}
}

func TestP15_1HoldsByRules(t *testing.T) {
	r := rand.New(rand.NewSource(51))
	counts := map[bool]int{}
	for i, f := range append(properties(6000, false), properties(6000, true)...) {
		w, at := randomWord(r), r.Intn(12)
		want := holds(f, w, at)
		if got := word.Holds(f, w, at); got != want {
			t.Errorf("%d: %s at %d of %s: %v", i, told(f), at, toldWord(w), got)
		}
		counts[want]++
	}
	if counts[true] < 4000 || counts[false] < 4000 {
		t.Errorf("%v", counts)
	}
}

// small are all words of letters with two atoms, with short stems and cycles.
func small() []word.Word {
	lists := [][]string{{""}, nil, nil, nil}
	for n := range 3 {
		for _, list := range lists[n] {
			for _, letter := range []string{"00", "01", "10", "11"} {
				lists[n+1] = append(lists[n+1], list+" "+letter)
			}
		}
	}
	var all []word.Word
	for stem := range 3 {
		for cycle := 1; stem+cycle < 4; cycle++ {
			for _, s := range lists[stem] {
				for _, c := range lists[cycle] {
					all = append(all, wordOf(s, c))
				}
			}
		}
	}
	return all
}

// pairs are properties of each kind, with kids of each kind.
func pairs() []api.Ltl {
	a, b := atom(0), atom(1)
	inner := []api.Ltl{yes(), no(), a, b}
	for kind, n := range kidsOf {
		inner = append(inner, of(kind, []api.Ltl{a, b}[:n]...))
	}
	all := inner
	for kind, n := range kidsOf {
		for _, f := range inner {
			if n == 1 {
				all = append(all, of(kind, f))
				continue
			}
			for _, g := range inner {
				all = append(all, of(kind, f, g))
			}
		}
	}
	return all
}

func TestP15_1HoldsOnSmallWords(t *testing.T) {
	words := small()
	for i, f := range pairs() {
		for j := i % 3; j < len(words); j += 3 {
			for at := range 4 {
				if got := word.Holds(f, words[j], at); got != holds(f, words[j], at) {
					t.Fatalf("%s at %d of %s: %v", told(f), at, toldWord(words[j]), got)
				}
			}
		}
	}
}

// TestP15_3Laws: of U and R, at all positions.
func TestP15_3Laws(t *testing.T) {
	r := rand.New(rand.NewSource(53))
	ps := append(properties(1500, true), pairs()...)
	for range 4000 {
		p, q, w := one(r, ps...), one(r, ps...), randomWord(r)
		until, free := of(api.TUntil, p, q), of(api.TFree, p, q)
		step := of(api.TOr, q, of(api.TAnd, p, of(api.TNext, until)))
		stay := of(api.TAnd, q, of(api.TOr, p, of(api.TNext, free)))
		for at := range 7 {
			if word.Holds(until, w, at) != word.Holds(step, w, at) || word.Holds(free, w, at) != word.Holds(stay, w, at) {
				t.Errorf("%s and %s at %d of %s", told(p), told(q), at, toldWord(w))
			}
		}
	}
}

// TestP15_1HoldsOfMuch: deep properties and long words.
func TestP15_1HoldsOfMuch(t *testing.T) {
	const n = 1 << 16
	for kind, count := range kidsOf {
		f, g := atom(0), atom(0) // deep in the first and in the last kid
		for range n {
			f = of(kind, []api.Ltl{f, atom(1)}[:count]...)
			g = of(kind, []api.Ltl{atom(1), g}[2-count:]...)
		}
		w := wordOf("10 01", "11 01 10")
		if count == 1 && kind != api.TNext && word.Holds(f, w, 0) != (kind == api.TNot || kind == api.TSome) {
			t.Errorf("kind %d", kind)
		}
		if kind == api.TNext && word.Holds(f, w, 0) != holds(atom(0), w, n) {
			t.Error("X")
		}
		if count == 2 && (!word.Holds(f, wordOf("", "11"), 1) || !word.Holds(g, wordOf("", "11"), 1)) {
			t.Errorf("kind %d", kind)
		}
		for _, h := range []api.Ltl{f, g} {
			if word.Size(h) != 1+n*count || !word.Same(h, h) || word.Holds(word.Plain(h, true), w, 3) == word.Holds(h, w, 3) {
				t.Errorf("kind %d", kind)
			}
		}
	}
	long := word.Word{Stem: make([][]bool, n), Cycle: make([][]bool, n)}
	long.Cycle[n-1] = []bool{true}
	for at, want := range map[int]bool{0: false, 2*n - 1: true, 2 * n: false, 3*n - 1: true} {
		if word.Holds(atom(0), long, at) != want || !word.Holds(of(api.TAll, of(api.TSome, atom(0))), long, at) || !word.Holds(of(api.TUntil, not(atom(0)), atom(0)), long, at) {
			t.Errorf("at %d", at)
		}
	}
}
