package elim

import (
	"cmp"
	"slices"

	"plumbline/api"
	"plumbline/rel"
	"plumbline/zint"
)

// few is from how many times as many relations on that do not change, the others are
// tidied by themselves.
const few = 4

// replaced returns what Tidy makes of rs, which are tidy, with the term of the Swap
// substituted for its variable, or false if they cannot hold.
func replaced(rs []api.Rel, swap Swap) ([]api.Rel, bool) {
	others := make([]api.Rel, 0, len(rs))
	var changed []api.Rel
	for _, r := range rs {
		if has(r, swap.V) {
			changed = append(changed, rel.Put(r, swap.V, swap.T))
		} else {
			others = append(others, r)
		}
	}
	if len(others) < few*len(changed) {
		return rel.Tidy(append(others, changed...))
	}
	return tidied(others, changed)
}

// tidied returns what Tidy makes of rs, which are tidy, and of changed ones, or false if
// they cannot hold. Only those that have changed, and those with the same sums as these,
// are tidied again.
func tidied(rs, changed []api.Rel) ([]api.Rel, bool) {
	changed, ok := rel.Tidy(changed)
	if !ok {
		return nil, false
	}
	sums := changed
	slices.SortFunc(sums, compareSums)
	others := rs[:0]
	for _, r := range rs {
		if _, ok := slices.BinarySearchFunc(sums, r, compareSums); ok {
			changed = append(changed, r)
		} else {
			others = append(others, r)
		}
	}
	changed, ok = rel.Tidy(changed)
	if !ok {
		return nil, false
	}
	return merged(others, changed), true
}

// has reports whether a tight relation has a variable.
func has(r api.Rel, v int) bool {
	for i := range r.T.Parts {
		if r.T.Parts[i].V == v {
			return true
		}
	}
	return false
}

// compareSums compares the sums of two tight relations, that is their parts, each with the
// sign that makes the first coefficient positive.
func compareSums(a, b api.Rel) int {
	signA, signB := zint.Sign(a.T.Parts[0].C), zint.Sign(b.T.Parts[0].C)
	return slices.CompareFunc(a.T.Parts, b.T.Parts, func(p, q api.Part) int {
		if p.V != q.V {
			return cmp.Compare(p.V, q.V)
		}
		return zint.Cmp(signed(p.C, signA), signed(q.C, signB))
	})
}

func signed(n api.Int, sign int) api.Int {
	if sign < 0 {
		return zint.Neg(n)
	}
	return n
}

// merged returns the relations of two sorted lists in order. The second one is short.
func merged(rs, more []api.Rel) []api.Rel {
	all := make([]api.Rel, 0, len(rs)+len(more))
	for _, r := range more {
		i, _ := slices.BinarySearchFunc(rs, r, rel.Cmp)
		all = append(append(all, rs[:i]...), r)
		rs = rs[i:]
	}
	return append(all, rs...)
}
