package word

import (
	"slices"

	"plumbline/api"
)

// Holds reports whether f holds at a position of w.
func Holds(f api.Ltl, w Word, at int) bool {
	if len(w.Cycle) == 0 {
		return false
	}
	t := track{letters: slices.Concat(w.Stem, w.Cycle), back: len(w.Stem)}
	return t.truths(f)[index(w, at)]
}

// track contains the letters of the stem and the cycle of a word, and the index of the
// one behind the last. The same holds at all positions of a letter.
type track struct {
	letters [][]bool
	back    int
}

// next returns the index of the letter behind one.
func (t track) next(i int) int {
	if i == len(t.letters)-1 {
		return t.back
	}
	return i + 1
}

// truths returns for each letter whether f holds there.
func (t track) truths(f api.Ltl) []bool {
	f = counted(f)
	var kids [2][]bool
	for k, kid := range f.Kids {
		kids[k] = t.truths(kid)
	}
	switch f.Kind {
	case api.TCmp:
		return t.each(func(i int) bool { return has(t.letters[i], f.Prop) })
	case api.TNext:
		return t.each(func(i int) bool { return kids[0][t.next(i)] })
	}
	all := t.each(func(int) bool { return f.Kind == api.TAll || f.Kind == api.TFree })
	// What holds at the end of the cycle can depend on what holds at its start, so the
	// letters are visited twice.
	for range 2 {
		for i := range slices.Backward(all) {
			var now [2]bool
			for k := range f.Kids {
				now[k] = kids[k][i]
			}
			all[i] = truth(f.Kind, now, all[t.next(i)])
		}
	}
	return all
}

// each returns what a function returns for the index of each letter.
func (t track) each(of func(i int) bool) []bool {
	all := make([]bool, len(t.letters))
	for i := range all {
		all[i] = of(i)
	}
	return all
}

// truth reports whether a property of a kind holds somewhere, from whether its kids
// hold there, and whether it holds at the next position.
func truth(kind int, kids [2]bool, next bool) bool {
	switch kind {
	case api.TNot:
		return !kids[0]
	case api.TAnd:
		return kids == [2]bool{true, true}
	case api.TOr:
		return kids != [2]bool{false, false}
	case api.TImp:
		return kids != [2]bool{true, false}
	case api.TAll:
		return kids[0] && next
	case api.TSome:
		return kids[0] || next
	case api.TUntil:
		return kids[1] || kids[0] && next
	case api.TFree:
		return kids[1] && (kids[0] || next)
	}
	return kind == api.TTrue
}

// has reports whether an atom holds in a letter.
func has(letter []bool, atom int) bool {
	return atom >= 0 && atom < len(letter) && letter[atom]
}
