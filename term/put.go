package term

import (
	"math"

	"plumbline/api"
	"plumbline/zint"
)

// Without returns t without the part of variable v.
func Without(t api.Term, v int) api.Term {
	return Put(t, v, api.Term{})
}

// Put returns t with the term by substituted for variable v.
func Put(t api.Term, v int, by api.Term) api.Term {
	return PutAll(t, []int{v}, []api.Term{by})
}

// PutAll substitutes by[i] for vs[i], simultaneously for all i. The first
// occurrence of a variable in vs counts; beyond the end of by, it is not replaced.
func PutAll(t api.Term, vs []int, by []api.Term) api.Term {
	first := firstPlaces(vs)
	r := api.Term{K: t.K}
	for _, p := range plain(t.Parts) {
		i, listed := first[p.V]
		if !listed || i >= len(by) {
			r.Parts = append(r.Parts, p)
			continue
		}
		product := Scale(by[i], p.C)
		r.Parts = append(r.Parts, product.Parts...)
		r.K = zint.Add(r.K, product.K)
	}
	return Plain(r)
}

// firstPlaces tells where each variable occurs first.
func firstPlaces(vs []int) map[int]int {
	first := make(map[int]int, len(vs))
	for i, v := range vs {
		if _, listed := first[v]; !listed {
			first[v] = i
		}
	}
	return first
}

// Move returns t with variable v + n in place of each variable v. Parts whose
// variable becomes negative or greater than 2^31 - 1 are omitted.
func Move(t api.Term, n int) api.Term {
	shift := int64(min(max(n, math.MinInt32), math.MaxInt32))
	r := api.Term{K: t.K}
	for _, p := range plain(t.Parts) {
		if v := int64(p.V); v >= -shift && v <= math.MaxInt32-shift { // v + shift may overflow
			r.Parts = append(r.Parts, api.Part{V: int(v + shift), C: p.C})
		}
	}
	return Plain(r)
}
