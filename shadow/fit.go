package shadow

import (
	"slices"

	"plumbline/api"
	"plumbline/term"
	"plumbline/zint"
)

// Fit returns a value of v for which all its bounds hold, with the values vals for
// the other variables, and true; or 0 and false if there is none.
func Fit(rs []api.Rel, v int, vals []api.Int) (api.Int, bool) {
	lower, upper, _ := split(rs, v)
	var lows, highs []api.Int
	for _, l := range lower {
		low, _ := zint.Ceil(zint.Neg(valueBeside(l, v, vals)), l.size)
		lows = append(lows, low)
	}
	for _, u := range upper {
		high, _, _ := zint.Div(valueBeside(u, v, vals), u.size)
		highs = append(highs, high)
	}
	switch {
	case len(lows) == 0 && len(highs) == 0:
		return api.Int{}, true
	case len(lows) == 0:
		return slices.MinFunc(highs, zint.Cmp), true
	}
	low := slices.MaxFunc(lows, zint.Cmp)
	if slices.ContainsFunc(highs, func(high api.Int) bool { return zint.Cmp(low, high) > 0 }) {
		return api.Int{}, false
	}
	return low, true
}

// valueBeside is the value of what stands beside v in a bound of v.
func valueBeside(b bound, v int, vals []api.Int) api.Int {
	return term.Value(term.Without(b.t, v), vals)
}
