package elim

import (
	"slices"

	"plumbline/api"
	"plumbline/term"
	"plumbline/zint"
)

// mostValues is the greatest number of values to which a Swap extends a list.
const mostValues = 1 << 21

// Back returns vals, changed by the swaps from the last to the first: the value of
// V becomes the value of T at the current values. Swaps of a variable that has no
// place in a list of mostValues are ignored.
func Back(swaps []Swap, vals []api.Int) []api.Int {
	size := len(vals)
	for _, s := range swaps {
		if isPlace(s.V) {
			size = max(size, s.V+1)
		}
	}
	all := firstOf(vals, size)
	for _, s := range slices.Backward(swaps) {
		if isPlace(s.V) {
			all[s.V] = term.Value(s.T, all)
		}
	}
	return all
}

func isPlace(v int) bool {
	return v >= 0 && v < mostValues
}

// firstOf returns the first n values of vals in new memory, with 0 beyond the end
// of vals.
func firstOf(vals []api.Int, n int) []api.Int {
	all := make([]api.Int, n)
	for i, val := range vals[:min(n, len(vals))] {
		all[i] = zint.From(val.Neg, val.Abs)
	}
	return all
}

// Forth extends the first values of vals by those of the fresh variables, so that
// for each Swap T has the value of V. It returns nil and false if that cannot be.
func Forth(swaps []Swap, vals []api.Int, first int) ([]api.Int, bool) {
	all := firstOf(vals, min(max(first, 0), mostValues))
	for _, s := range swaps {
		var ok bool
		if all, ok = extended(all, s); !ok {
			return nil, false
		}
	}
	return all, true
}

// extended returns vals, extended by the value that s determines, if there is one.
func extended(vals []api.Int, s Swap) ([]api.Int, bool) {
	last := greatest(s.T)
	if s.V < 0 || s.V >= len(vals) || last >= mostValues {
		return nil, false
	}
	missing := zint.Sub(vals[s.V], term.Value(s.T, vals)) // what is beyond vals counts as 0
	if last < len(vals) {
		return vals, zint.Sign(missing) == 0
	}
	n, e := zint.Exact(missing, term.Coef(s.T, last))
	vals = append(vals, make([]api.Int, last-len(vals))...)
	return append(vals, n), e == api.OK
}

// greatest returns the greatest variable of t, or -1 if there is none.
func greatest(t api.Term) int {
	vs := term.Vars(t)
	if len(vs) == 0 {
		return -1
	}
	return vs[len(vs)-1]
}
