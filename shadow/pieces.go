package shadow

import (
	"slices"

	"plumbline/api"
	"plumbline/rel"
	"plumbline/term"
	"plumbline/zint"
)

// Pieces returns lists of relations, one of which holds where rs hold and the dark
// shadow does not: each is an equation for a lower bound of v, followed by rs. It
// returns ErrMany if there would be more than most lists.
func Pieces(rs []api.Rel, v, most int) ([][]api.Rel, api.Errno) {
	lower, upper, _ := split(rs, v)
	numbers, ok := numbersOf(lower, upper, max(most, 0))
	if !ok {
		return nil, api.ErrMany
	}
	var lists [][]api.Rel
	for at, n := range numbers {
		for i := range n {
			equation := rel.Zero(term.Sub(lower[at].t, term.Number(zint.Of(int64(i)))))
			lists = append(lists, startingWith(equation, rs))
		}
	}
	return lists, api.OK
}

// numbersOf returns how many lists there are for each lower bound, or false if
// there are more than most in total.
func numbersOf(lower, upper []bound, most int) ([]int, bool) {
	if len(upper) == 0 {
		return nil, true
	}
	b := slices.MaxFunc(upper, func(x, y bound) int { return zint.Cmp(x.size, y.size) }).size
	var numbers []int
	for _, l := range lower {
		n, ok := zint.Small(number(l.size, b))
		if !ok || n > int64(most) {
			return nil, false
		}
		numbers = append(numbers, int(n))
		most -= int(n)
	}
	return numbers, true
}

// number is how many numbers there are from 0 up to (b * a - b - a) / b.
func number(a, b api.Int) api.Int {
	last, _, _ := zint.Div(zint.Sub(zint.Sub(zint.Mul(b, a), b), a), b)
	return zint.Add(last, zint.Of(1))
}

// startingWith returns first, followed by rs with plain terms, in new memory.
func startingWith(first api.Rel, rs []api.Rel) []api.Rel {
	list := []api.Rel{first}
	for _, r := range rs {
		list = append(list, api.Rel{T: term.Plain(r.T), Eq: r.Eq})
	}
	return list
}
