package rel

import (
	"slices"

	"plumbline/api"
	"plumbline/term"
	"plumbline/zint"
)

// A band states that a sum of variables is at least low, if there is a low, and
// at most high, if there is a high. The sum has the content 1, a positive first
// coefficient and no constant, so that tight relations have the same sum exactly
// if the parts of the one are those of the other or their negation. This is why
// whatever Tidy finds is found by comparing the ends of bands.
type band struct {
	sum       api.Term
	low, high end
}

type end struct {
	given bool
	n     api.Int
}

// bandOf is the band of a tight relation.
func bandOf(r api.Rel) band {
	sum := api.Term{Parts: r.T.Parts}
	if zint.Sign(sum.Parts[0].C) < 0 { // not with Eq
		return band{sum: term.Neg(sum), high: end{true, r.T.K}}
	}
	b := band{sum: sum, low: end{true, zint.Neg(r.T.K)}}
	if r.Eq {
		b.high = b.low
	}
	return b
}

// both is the band of the values that are in a and in b, which have the same sum.
func both(a, b band) band {
	return band{
		sum:  a.sum,
		low:  stricter(a.low, b.low, zint.Max),
		high: stricter(a.high, b.high, zint.Min),
	}
}

// stricter is the end that counts of two, where choose finds it if both are given.
func stricter(a, b end, choose func(a, b api.Int) api.Int) end {
	switch {
	case !a.given:
		return b
	case !b.given:
		return a
	}
	return end{true, choose(a.n, b.n)}
}

// relations are the tight relations that state what b does; there are none and
// false if nothing is in b.
func (b band) relations() ([]api.Rel, bool) {
	if b.low.given && b.high.given {
		switch zint.Cmp(b.low.n, b.high.n) {
		case 1:
			return nil, false
		case 0:
			return []api.Rel{Zero(term.Sub(b.sum, term.Number(b.low.n)))}, true
		}
	}
	var rs []api.Rel
	if b.low.given {
		rs = append(rs, Least(term.Sub(b.sum, term.Number(b.low.n))))
	}
	if b.high.given {
		rs = append(rs, Least(term.Sub(term.Number(b.high.n), b.sum)))
	}
	return rs, true
}

// Tidy returns a simpler list of relations that is equivalent to the conjunction
// of rs, sorted by Cmp, and true; or nil and false if it finds that the relations
// cannot hold together.
func Tidy(rs []api.Rel) ([]api.Rel, bool) {
	var bands []band
	for _, r := range rs {
		tight, truth := Tight(r)
		switch truth {
		case -1:
			return nil, false
		case 0:
			bands = append(bands, bandOf(tight))
		}
	}
	var tidy []api.Rel
	for _, b := range joined(bands) {
		more, ok := b.relations()
		if !ok {
			return nil, false
		}
		tidy = append(tidy, more...)
	}
	slices.SortFunc(tidy, Cmp)
	return tidy, true
}

// joined are the bands of which each has a sum of its own.
func joined(bands []band) []band {
	slices.SortFunc(bands, func(a, b band) int { return term.Cmp(a.sum, b.sum) })
	var r []band
	for _, b := range bands {
		if last := len(r) - 1; last >= 0 && term.Same(r[last].sum, b.sum) {
			r[last] = both(r[last], b)
		} else {
			r = append(r, b)
		}
	}
	return r
}
