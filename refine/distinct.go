package refine

import (
	"cmp"
	"slices"

	"plumbline/api"
	"plumbline/rel"
)

// distinct returns a flat formula with only the first one of equal kids of an And. It has
// the same relations, also when something is substituted. Conditions say the same about
// most states of a path, so that without this they would grow with its length.
func distinct(f api.Form) api.Form {
	if f.Kind != api.And {
		return f
	}
	order := make([]int, len(f.Kids))
	for i := range order {
		order[i] = i
	}
	slices.SortStableFunc(order, func(i, j int) int { return compare(f.Kids[i], f.Kids[j]) })
	order = slices.CompactFunc(order, func(i, j int) bool { return compare(f.Kids[i], f.Kids[j]) == 0 })
	slices.Sort(order)
	rest := api.Form{Kind: api.And}
	for _, i := range order {
		rest.Kids = append(rest.Kids, f.Kids[i])
	}
	return rest
}

// compare is a total order of flat formulas.
func compare(f, g api.Form) int {
	return cmp.Or(cmp.Compare(f.Kind, g.Kind), rel.Cmp(f.R, g.R), slices.CompareFunc(f.Kids, g.Kids, compare))
}
