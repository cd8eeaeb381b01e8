package word_test

import (
	"fmt"
	"math"
	"math/rand"
	"testing"

	"plumbline/api"
	"plumbline/word"
)

func TestP15_1Shift(t *testing.T) {
	for _, x := range []struct {
		stem, cycle string
		n           int
		want        string
	}{
		{"1 0 11", "00 01 10", 0, "1 0 11 (00 01 10)"}, {"1 0 11", "00 01 10", 1, "0 11 (00 01 10)"}, {"1 0 11", "00 01 10", 2, "11 (00 01 10)"}, {"1 0 11", "00 01 10", 3, " (00 01 10)"}, {"1 0 11", "00 01 10", 4, " (01 10 00)"}, {"1 0 11", "00 01 10", 5, " (10 00 01)"}, {"1 0 11", "00 01 10", 6, " (00 01 10)"}, {"1 0 11", "00 01 10", 7, " (01 10 00)"}, {"1 0 11", "00 01 10", 3 + 3000 + 2, " (10 00 01)"},
		{"1 0 11", "00 01 10", -1, "1 0 11 (00 01 10)"}, {"1 0 11", "00 01 10", math.MinInt, "1 0 11 (00 01 10)"}, {"", "1 0", math.MaxInt, " (0 1)"}, {"1", "1 0", math.MaxInt, " (1 0)"}, {"", "1", 5, " (1)"}, {"0", "1", 5, " (1)"}, {"", "1 . 101", 1, " (. 101 1)"}, {". 1", ".", 1, "1 (.)"},
		{"1 0", "", 0, " ()"}, {"1 0", "", 1, " ()"}, {"1 0", "", -1, " ()"}, {"", "", 3, " ()"}, {"1", "", math.MaxInt, " ()"},
	} {
		expect(t, fmt.Sprint(x), toldWord(word.Shift(wordOf(x.stem, x.cycle), x.n)), x.want)
	}
}

func TestP15_1Unroll(t *testing.T) {
	for _, x := range []struct {
		stem, cycle string
		n           int
		want        string
	}{
		{"1", "00 01", 0, "1 (00 01)"}, {"1", "00 01", 1, "1 00 01 (00 01)"}, {"1", "00 01", 3, "1 00 01 00 01 00 01 (00 01)"}, {"1", "00 01", -1, "1 (00 01)"}, {"1", "00 01", math.MinInt, "1 (00 01)"}, {"", "1", 2, "1 1 (1)"}, {"", ". 1", 1, ". 1 (. 1)"}, {"1 0", ".", 0, "1 0 (.)"},
		{"1 0", "", 0, " ()"}, {"1 0", "", 2, " ()"}, {"1 0", "", -2, " ()"}, {"", "", 1, " ()"}, {"1 0", "", math.MaxInt, " ()"},
	} {
		expect(t, fmt.Sprint(x), toldWord(word.Unroll(wordOf(x.stem, x.cycle), x.n)), x.want)
	}
	for n, want := range map[int]int{62: 62, 63: 63, 64: 64, 65: 64, 100: 64, 1 << 40: 64, math.MaxInt: 64} {
		got := word.Unroll(wordOf("1", "0 1"), n)
		if len(got.Stem) != 1+2*want || len(got.Cycle) != 2 {
			t.Errorf("Unroll by %d: %d letters", n, len(got.Stem))
		}
	}
}

// TestP15_4ShiftAndUnroll: a shifted word starts with what the original word has at
// that position. An unrolled word is the same word.
func TestP15_4ShiftAndUnroll(t *testing.T) {
	r := rand.New(rand.NewSource(54))
	ps := properties(500, true)
	for range 3000 {
		w, n := randomWord(r), r.Intn(14)-3
		shifted, unrolled := word.Shift(w, n), word.Unroll(w, n)
		if len(shifted.Cycle) != len(w.Cycle) || len(unrolled.Cycle) != len(w.Cycle) || len(unrolled.Stem) != len(w.Stem)+max(n, 0)*len(w.Cycle) || len(shifted.Stem) != max(len(w.Stem)-max(n, 0), 0) {
			t.Errorf("%s by %d: %s, %s", toldWord(w), n, toldWord(shifted), toldWord(unrolled))
		}
		for at := range 50 {
			expect(t, toldWord(w)+" shifted", spelled([][]bool{letter(shifted, at)}), spelled([][]bool{letter(w, max(n, 0)+at)}))
			expect(t, toldWord(w)+" unrolled", spelled([][]bool{letter(unrolled, at)}), spelled([][]bool{letter(w, at)}))
		}
		f, at := one(r, ps...), r.Intn(20)
		if word.Holds(f, shifted, at) != word.Holds(f, w, max(n, 0)+at) || word.Holds(f, unrolled, at) != word.Holds(f, w, at) {
			t.Errorf("%s at %d of %s by %d", told(f), at, toldWord(w), n)
		}
	}
}

// TestP15_1Memory: arguments stay as they are, also beyond the length of their lists,
// and results do not change with them.
func TestP15_1Memory(t *testing.T) {
	whole := letters("10 01 11 00 10")
	w := word.Word{Stem: whole[:2:3], Cycle: whole[3:4]}
	kids := []api.Ltl{atom(0), atom(1), yes()}
	before := spelled(whole) + told(of(0, kids...))
	var results []api.Ltl
	for _, f := range []api.Ltl{of(api.TAnd, kids[:1]...), of(api.TNot, kids[:1]...), of(api.TNot, kids[:0]...), of(api.TUntil, kids[:0]...), of(api.TFree, kids...), of(api.TAll, kids[:2]...)} {
		word.Holds(f, w, 1)
		word.Size(f)
		word.Same(f, f)
		results = append(results, word.Plain(f, false), word.Plain(f, true))
	}
	words := []word.Word{word.Shift(w, 0), word.Shift(w, 1), word.Shift(w, 2), word.Shift(w, 5), word.Unroll(w, 0), word.Unroll(w, 3)}
	expect(t, "arguments", spelled(whole)+told(of(0, kids...)), before)
	all := func() string {
		text := told(of(0, results...))
		for _, v := range words {
			text += toldWord(v)
		}
		return text
	}
	want := all()
	for _, letter := range whole {
		letter[0], letter[1] = !letter[0], !letter[1]
	}
	for i := range kids {
		kids[i] = of(99)
	}
	expect(t, "results", all(), want)
}

// TestP15_1LettersOfTheirOwn: no letter of a word that is returned shares its memory
// with another.
func TestP15_1LettersOfTheirOwn(t *testing.T) {
	w := wordOf("10 10", "10 10")
	for _, v := range []word.Word{word.Shift(w, 1), word.Shift(w, 3), word.Unroll(w, 0), word.Unroll(w, 3)} {
		all := append(append([][]bool{}, v.Stem...), v.Cycle...)
		for i := range all {
			all[i][0] = false
			for j := range all {
				if all[j][0] != (j > i) {
					t.Errorf("letters %d and %d of %s", i, j, toldWord(v))
				}
			}
		}
	}
}
