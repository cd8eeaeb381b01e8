package abstr

import (
	"cmp"
	"slices"

	"plumbline/api"
	"plumbline/logic"
	"plumbline/rel"
)

// Base returns the relations of all atoms that are conditions, each once. It returns
// ErrMany if there are more than MaxPreds.
func Base(props []api.Prop) ([]api.Rel, api.Errno) {
	all := api.Form{Kind: api.And}
	for _, p := range props {
		if !p.At {
			all.Kids = append(all.Kids, logic.Flat(p.F))
		}
	}
	ps := Gather(nil, all)
	if len(ps) > api.MaxPreds {
		return nil, api.ErrMany
	}
	return ps, api.OK
}

// Gather returns ps, followed by the relations of f that are not among them, each once.
func Gather(ps []api.Rel, f api.Form) []api.Rel {
	all := appendAll(nil, ps...)
	all = appendRels(all, f)
	first := newFinder(all)
	gathered := all[:len(ps):len(ps)]
	for i, r := range all[len(ps):] {
		if n, _ := first.find(r); n == len(ps)+i {
			gathered = append(gathered, r)
		}
	}
	return gathered
}

// appendRels appends the relations of f to rs, from left to right.
func appendRels(rs []api.Rel, f api.Form) []api.Rel {
	switch f.Kind {
	case api.Atom:
		return appendAll(rs, f.R)
	case api.Not, api.And, api.Or:
		for _, kid := range f.Kids {
			rs = appendRels(rs, kid)
		}
	}
	return rs
}

// appendAll appends copies of more, with plain terms, to rs.
func appendAll(rs []api.Rel, more ...api.Rel) []api.Rel {
	for _, r := range more {
		if r.Eq {
			rs = append(rs, rel.Zero(r.T))
		} else {
			rs = append(rs, rel.Least(r.T))
		}
	}
	return rs
}

// finder finds relations in a list: it has their indices, in the order of the relations,
// and those of equal ones in increasing order.
type finder struct {
	rs    []api.Rel
	order []int
}

func newFinder(rs []api.Rel) finder {
	f := finder{rs: rs}
	for i := range rs {
		f.order = append(f.order, i)
	}
	slices.SortFunc(f.order, func(i, j int) int { return cmp.Or(rel.Cmp(rs[i], rs[j]), cmp.Compare(i, j)) })
	return f
}

// find returns the index of the first relation that equals r, and whether there is one.
func (f finder) find(r api.Rel) (int, bool) {
	n, ok := slices.BinarySearchFunc(f.order, r, func(i int, r api.Rel) int { return rel.Cmp(f.rs[i], r) })
	if !ok {
		return 0, false
	}
	return f.order[n], true
}

// Letter states which atoms hold in a, and returns true. It returns nil and false if the
// predicates do not determine that.
func Letter(props []api.Prop, ps []api.Rel, a Abs) ([]bool, bool) {
	known := newFinder(appendAll(nil, ps...))
	var letter []bool
	for _, p := range props {
		holds, ok := isAt(p, a.Locs), true
		if !p.At {
			holds, ok = known.evaluate(logic.Flat(p.F), a.Bits)
		}
		if !ok {
			return nil, false
		}
		letter = append(letter, holds)
	}
	return letter, true
}

func isAt(p api.Prop, locs []int) bool {
	return p.Proc >= 0 && p.Proc < len(locs) && locs[p.Proc] == p.Loc
}

// evaluate returns whether a flat formula holds where each relation has the bit of the
// predicate that it equals, and true, or false if one of them has none. All kids are
// looked at, since relations that do not matter for the truth must have bits, too.
func (f finder) evaluate(g api.Form, bits []bool) (bool, bool) {
	switch g.Kind {
	case api.True:
		return true, true
	case api.False:
		return false, true
	case api.Atom:
		i, ok := f.find(g.R)
		if !ok || i >= len(bits) {
			return false, false
		}
		return bits[i], true
	}
	all := g.Kind == api.And
	holds := all
	for _, kid := range g.Kids {
		is, ok := f.evaluate(kid, bits)
		if !ok {
			return false, false
		}
		if is != all {
			holds = is
		}
	}
	return holds, true
}
