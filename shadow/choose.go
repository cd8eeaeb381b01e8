package shadow

import (
	"cmp"
	"maps"
	"slices"

	"plumbline/api"
	"plumbline/term"
	"plumbline/zint"
)

// A side counts the bounds of a variable on one side, and those of them in which
// its coefficient is 1 or -1.
type side struct{ all, units int }

type sides struct{ lower, upper side }

// Choose returns the variable that is best eliminated, and whether its real shadow
// is exact. It returns -1 and false if there is no variable.
func Choose(rs []api.Rel) (v int, exact bool) {
	counts := count(rs)
	vs := slices.Sorted(maps.Keys(counts))
	if len(vs) == 0 {
		return -1, false
	}
	v = slices.MinFunc(vs, func(v, w int) int { return compare(counts[v], counts[w]) })
	return v, counts[v].exact()
}

// count tells for each variable that occurs how many bounds it has.
func count(rs []api.Rel) map[int]sides {
	counts := map[int]sides{}
	for _, r := range rs {
		for _, p := range term.Plain(r.T).Parts {
			s := counts[p.V]
			s.add(p.C)
			counts[p.V] = s
		}
	}
	return counts
}

// add counts a bound with the coefficient c.
func (s *sides) add(c api.Int) {
	on := &s.upper
	if zint.Sign(c) > 0 {
		on = &s.lower
	}
	on.all++
	if zint.Cmp(zint.Abs(c), zint.Of(1)) == 0 {
		on.units++
	}
}

func (s sides) exact() bool {
	return s.lower.units == s.lower.all || s.upper.units == s.upper.all
}

// compare returns -1 if a variable with the bounds a is better eliminated than one
// with the bounds b, 1 if it is the other way round, and otherwise 0.
func compare(a, b sides) int {
	if a.exact() != b.exact() {
		if a.exact() {
			return -1
		}
		return 1
	}
	return cmp.Compare(a.lower.all*a.upper.all, b.lower.all*b.upper.all)
}
