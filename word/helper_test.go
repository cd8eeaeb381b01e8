package word_test

import (
	"fmt"
	"math/rand"
	"strings"
	"testing"

	"plumbline/api"
	"plumbline/word"
)

func expect(t *testing.T, what, got, want string) {
	t.Helper()
	if got != want {
		t.Errorf("%.600s:\n got %.1200s\nwant %.1200s", what, got, want)
	}
}

func atom(n int) api.Ltl { return api.Ltl{Kind: api.TCmp, Prop: n} }

func of(kind int, kids ...api.Ltl) api.Ltl { return api.Ltl{Kind: kind, Kids: kids} }

func yes() api.Ltl { return of(api.TTrue) }

func no() api.Ltl { return of(api.TFalse) }

func not(f api.Ltl) api.Ltl { return of(api.TNot, f) }

// told tells all of a property. A nil list counts as an empty one.
func told(f api.Ltl) string {
	text := fmt.Sprintf("{%d %d", f.Kind, f.Prop)
	for _, kid := range f.Kids {
		text += " " + told(kid)
	}
	return text + "}"
}

// letters are those of a text: each a list of 0 and 1, "." if it is empty.
func letters(text string) [][]bool {
	var all [][]bool
	for _, part := range strings.Fields(text) {
		letter := []bool{}
		for _, c := range strings.Trim(part, ".") {
			letter = append(letter, c == '1')
		}
		all = append(all, letter)
	}
	return all
}

func wordOf(stem, cycle string) word.Word {
	return word.Word{Stem: letters(stem), Cycle: letters(cycle)}
}

// spelled is the opposite of letters.
func spelled(all [][]bool) string {
	var parts []string
	for _, letter := range all {
		part := ""
		for _, b := range letter {
			part += map[bool]string{false: "0", true: "1"}[b]
		}
		if part == "" {
			part = "."
		}
		parts = append(parts, part)
	}
	return strings.Join(parts, " ")
}

func toldWord(w word.Word) string { return spelled(w.Stem) + " (" + spelled(w.Cycle) + ")" }

// kidsOf is how many kids each kind has.
var kidsOf = map[int]int{api.TNot: 1, api.TNext: 1, api.TAll: 1, api.TSome: 1, api.TAnd: 2, api.TOr: 2, api.TImp: 2, api.TUntil: 2, api.TFree: 2}

// strange are kinds that a property does not have.
var strange = []int{-1, api.TAt, 13, 14, 1 << 40, -1 << 40}

func one[T any](r *rand.Rand, all ...T) T { return all[r.Intn(len(all))] }

// random is a property, with missing, additional and unknown parts if odd is set.
func random(r *rand.Rand, depth int, odd bool) api.Ltl {
	kind := []int{api.TCmp, api.TNot, api.TNext, api.TAll, api.TSome, api.TAnd, api.TOr, api.TImp, api.TUntil, api.TFree}[r.Intn(10)]
	if depth == 0 {
		kind = one(r, api.TCmp, api.TCmp, api.TCmp, api.TTrue, api.TFalse)
	}
	f := of(kind)
	if kind == api.TCmp {
		f.Prop = r.Intn(3)
	}
	n := kidsOf[kind]
	if odd && r.Intn(6) == 0 {
		f.Kind, f.Prop, n = one(r, append(strange, kind, kind, kind, kind, kind, kind, kind)...), r.Intn(7)-3, r.Intn(4)
	}
	for range n {
		f.Kids = append(f.Kids, random(r, max(depth-1, 0), odd && depth > 0))
	}
	return f
}

// properties are some of all kinds.
func properties(n int, odd bool) []api.Ltl {
	r := rand.New(rand.NewSource(15))
	var all []api.Ltl
	for i := range n {
		all = append(all, random(r, i%5, odd))
	}
	return all
}

// randomWord has letters of different lengths.
func randomWord(r *rand.Rand) word.Word {
	list := func(n int) [][]bool {
		all := [][]bool{}
		for range n {
			letter := make([]bool, one(r, 0, 1, 2, 3, 3, 3))
			for i := range letter {
				letter[i] = r.Intn(2) == 0
			}
			all = append(all, letter)
		}
		return all
	}
	return word.Word{Stem: list(r.Intn(4)), Cycle: list(1 + r.Intn(3))}
}

// letter is the letter at a position that is not negative.
func letter(w word.Word, at int) []bool {
	for at >= len(w.Stem)+len(w.Cycle) {
		at -= len(w.Cycle)
	}
	if at < len(w.Stem) {
		return w.Stem[at]
	}
	return w.Cycle[at-len(w.Stem)]
}

// holds is what the document's words say, without what is said of operators by
// others. Later positions than one stem and one cycle behind repeat one of these.
func holds(f api.Ltl, w word.Word, at int) bool {
	if len(w.Cycle) == 0 {
		return false
	}
	for at >= len(w.Stem)+len(w.Cycle) {
		at -= len(w.Cycle)
	}
	kid := func(i, at int) bool { return i < len(f.Kids) && holds(f.Kids[i], w, at) }
	end := at + len(w.Stem) + len(w.Cycle)
	some := func(is func(i int) bool) int { // the first position at which it is, or -1
		for i := at; i <= end; i++ {
			if is(i) {
				return i
			}
		}
		return -1
	}
	switch f.Kind {
	case api.TTrue:
		return true
	case api.TCmp:
		now := letter(w, at)
		return f.Prop >= 0 && f.Prop < len(now) && now[f.Prop]
	case api.TNot:
		return !kid(0, at)
	case api.TAnd:
		return kid(0, at) && kid(1, at)
	case api.TOr:
		return kid(0, at) || kid(1, at)
	case api.TImp:
		return !kid(0, at) || kid(1, at)
	case api.TNext:
		return kid(0, at+1)
	case api.TAll:
		return some(func(i int) bool { return !kid(0, i) }) < 0
	case api.TSome:
		return some(func(i int) bool { return kid(0, i) }) >= 0
	case api.TUntil:
		q := some(func(i int) bool { return kid(1, i) })
		notP := some(func(i int) bool { return !kid(0, i) })
		return q >= 0 && (notP < 0 || notP >= q)
	case api.TFree:
		p := some(func(i int) bool { return kid(0, i) })
		notQ := some(func(i int) bool { return !kid(1, i) })
		return notQ < 0 || p >= 0 && notQ > p
	}
	return false
}
