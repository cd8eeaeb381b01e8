package gba_test

import (
	"fmt"
	"math/rand"
	"strconv"
	"strings"
	"testing"

	"plumbline/api"
	"plumbline/gba"
	"plumbline/word"
)

func expect(t *testing.T, what, got, want string) {
	t.Helper()
	if got != want {
		t.Errorf("%.600s:\n got %.1200s\nwant %.1200s", what, got, want)
	}
}

func atom(n int) api.Ltl { return api.Ltl{Kind: api.TCmp, Prop: n} }

func of(kind int, kids ...api.Ltl) api.Ltl { return api.Ltl{Kind: kind, Kids: kids} }

func not(f api.Ltl) api.Ltl { return of(api.TNot, f) }

// signs are those of the kinds with kids, in texts of properties.
var signs = map[string]int{"!": api.TNot, "X": api.TNext, "G": api.TAll, "F": api.TSome, "&": api.TAnd, "|": api.TOr, "->": api.TImp, "U": api.TUntil, "R": api.TFree}

// kidsOf is how many kids each kind has.
var kidsOf = map[int]int{api.TNot: 1, api.TNext: 1, api.TAll: 1, api.TSome: 1, api.TAnd: 2, api.TOr: 2, api.TImp: 2, api.TUntil: 2, api.TFree: 2}

// prop reads a property, in which each sign stands in front of its kids: "U a & b c" is
// a U (b & c). The atoms 0 to 2 are a to c, other atoms are numbers; kinds without kids
// that are not there are written as "?".
func prop(text string) api.Ltl {
	f, rest := read(strings.Fields(text))
	if len(rest) > 0 {
		panic(text)
	}
	return f
}

func read(tokens []string) (api.Ltl, []string) {
	token, rest := tokens[0], tokens[1:]
	switch token {
	case "true":
		return of(api.TTrue), rest
	case "false":
		return of(api.TFalse), rest
	case "?":
		return of(99), rest
	case "a", "b", "c":
		return atom(int(token[0] - 'a')), rest
	}
	kind, ok := signs[token]
	if !ok {
		n, err := strconv.Atoi(token)
		if err != nil {
			panic(token)
		}
		return atom(n), rest
	}
	f := of(kind)
	for range kidsOf[kind] {
		var kid api.Ltl
		kid, rest = read(rest)
		f.Kids = append(f.Kids, kid)
	}
	return f, rest
}

// told tells all of a property. A nil list counts as an empty one.
func told(f api.Ltl) string {
	text := fmt.Sprintf("{%d %d", f.Kind, f.Prop)
	for _, kid := range f.Kids {
		text += " " + told(kid)
	}
	return text + "}"
}

// letters are those of a text: each a list of 0 and 1, "." if it is empty.
func letters(text string) [][]bool {
	var all [][]bool
	for _, part := range strings.Fields(text) {
		letter := []bool{}
		for _, c := range strings.Trim(part, ".") {
			letter = append(letter, c == '1')
		}
		all = append(all, letter)
	}
	return all
}

// wordOf reads a word: its stem, "/", and its cycle.
func wordOf(text string) word.Word {
	stem, cycle, _ := strings.Cut(text, "/")
	return word.Word{Stem: letters(stem), Cycle: letters(cycle)}
}

func toldWord(w word.Word) string { return fmt.Sprint(w.Stem, "/", w.Cycle) }

// numbers reads a list of them.
func numbers(text string) []int {
	var all []int
	for _, part := range strings.Fields(text) {
		n, err := strconv.Atoi(part)
		if err != nil {
			panic(text)
		}
		all = append(all, n)
	}
	return all
}

// automaton reads an automaton: First; each node as "must ! never > next"; and each of
// the Sets in braces.
func automaton(text string) gba.Gba {
	parts := strings.Split(text, ";")
	g := gba.Gba{First: numbers(parts[0])}
	for _, part := range parts[1:] {
		part = strings.TrimSpace(part)
		if strings.HasPrefix(part, "{") {
			g.Sets = append(g.Sets, numbers(strings.Trim(part, "{}")))
			continue
		}
		left, next, _ := strings.Cut(part, ">")
		must, never, _ := strings.Cut(left, "!")
		g.Nodes = append(g.Nodes, gba.Node{Must: numbers(must), Never: numbers(never), Next: numbers(next)})
	}
	return g
}

// toldNodes is the opposite of automaton, without the Sets.
func toldNodes(g gba.Gba) string {
	text := list(g.First)
	for _, n := range g.Nodes {
		text += "; "
		if len(n.Must) > 0 {
			text += list(n.Must) + " "
		}
		if len(n.Never) > 0 {
			text += "! " + list(n.Never) + " "
		}
		text += strings.TrimRight("> "+list(n.Next), " ")
	}
	return text
}

func toldGba(g gba.Gba) string {
	text := toldNodes(g)
	for _, set := range g.Sets {
		text += "; {" + list(set) + "}"
	}
	return text
}

func list(ns []int) string { return strings.Trim(fmt.Sprint(ns), "[]") }

// strange are kinds that a property does not have.
var strange = []int{-1, api.TAt, 13, 14, 1 << 40, -1 << 40}

func one[T any](r *rand.Rand, all ...T) T { return all[r.Intn(len(all))] }

// random is a property, with missing, additional and unknown parts if odd is set.
func random(r *rand.Rand, depth int, odd bool) api.Ltl {
	kind := []int{api.TCmp, api.TNot, api.TNext, api.TAll, api.TSome, api.TAnd, api.TOr, api.TImp, api.TUntil, api.TFree}[r.Intn(10)]
	if depth == 0 {
		kind = one(r, api.TCmp, api.TCmp, api.TCmp, api.TTrue, api.TFalse)
	}
	f := of(kind)
	if kind == api.TCmp {
		f.Prop = r.Intn(3)
	}
	n := kidsOf[kind]
	if odd && r.Intn(6) == 0 {
		f.Kind, f.Prop, n = one(r, append(strange, kind, kind, kind, kind, kind, kind, kind)...), r.Intn(7)-3, r.Intn(4)
	}
	for range n {
		f.Kids = append(f.Kids, random(r, max(depth-1, 0), odd && depth > 0))
	}
	return f
}

// properties are some of all kinds.
func properties(n int, odd bool) []api.Ltl {
	r := rand.New(rand.NewSource(16))
	var all []api.Ltl
	for i := range n {
		all = append(all, random(r, i%5, odd))
	}
	return all
}

// pairs are properties of each kind, with kids of each kind.
func pairs() []api.Ltl {
	inner := []api.Ltl{prop("true"), prop("false"), prop("a"), prop("b")}
	for kind := api.TNot; kind <= api.TFree; kind++ {
		if n := kidsOf[kind]; n > 0 {
			inner = append(inner, of(kind, []api.Ltl{atom(0), atom(1)}[:n]...))
		}
	}
	all := inner
	for kind := api.TNot; kind <= api.TFree; kind++ {
		for _, f := range inner {
			if kidsOf[kind] == 1 {
				all = append(all, of(kind, f))
				continue
			}
			for _, g := range inner[:len(inner)*(kidsOf[kind]/2)] {
				all = append(all, of(kind, f, g))
			}
		}
	}
	return all
}

// randomWord has letters of different lengths.
func randomWord(r *rand.Rand) word.Word {
	list := func(n int) [][]bool {
		all := [][]bool{}
		for range n {
			letter := make([]bool, one(r, 0, 1, 2, 3, 3, 3))
			for i := range letter {
				letter[i] = r.Intn(2) == 0
			}
			all = append(all, letter)
		}
		return all
	}
	return word.Word{Stem: list(r.Intn(4)), Cycle: list(1 + r.Intn(3))}
}

// small are all words of letters with two atoms, with short stems and cycles.
func small() []word.Word {
	lists := [][]string{{""}, nil, nil, nil}
	for n := range 3 {
		for _, list := range lists[n] {
			for _, letter := range []string{"00", "01", "10", "11"} {
				lists[n+1] = append(lists[n+1], list+" "+letter)
			}
		}
	}
	var all []word.Word
	for stem := range 3 {
		for cycle := 1; stem+cycle < 4; cycle++ {
			for _, s := range lists[stem] {
				for _, c := range lists[cycle] {
					all = append(all, wordOf(s+"/"+c))
				}
			}
		}
	}
	return all
}

// randomGba has numbers of nodes that do not exist, and duplicates.
func randomGba(r *rand.Rand) gba.Gba {
	n := r.Intn(6)
	list := func(most, from, to int) []int {
		var all []int
		for range r.Intn(most + 1) {
			all = append(all, from+r.Intn(to-from))
		}
		return all
	}
	nodesIn := func(most int) []int {
		all := list(most, 0, max(n, 1))
		if r.Intn(4) == 0 {
			all = append(all, one(r, -1, n, n+1, -1<<62, 1<<62, 0))
		}
		r.Shuffle(len(all), func(i, j int) { all[i], all[j] = all[j], all[i] })
		return all
	}
	g := gba.Gba{First: nodesIn(3)}
	for range n {
		g.Nodes = append(g.Nodes, gba.Node{Must: list(1, 0, 3), Never: list(1, -1, 3), Next: nodesIn(4)})
	}
	for range r.Intn(4) {
		g.Sets = append(g.Sets, nodesIn(5))
	}
	return g
}
