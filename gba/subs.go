package gba

import "plumbline/api"

// sub is a subproperty; its kids are numbers of others, or -1 if it has less of them.
type sub struct {
	kind, prop int
	kids       [2]int
}

// subs returns the different subproperties of f, which is in the form of Plain, in the
// order in which they first occur, each before its kids.
func subs(f api.Ltl) []sub {
	t := table{number: map[sub]int{}}
	return t.ordered(t.add(f))
}

// table contains different subproperties, each behind its kids, and their numbers.
type table struct {
	all    []sub
	number map[sub]int
}

// add adds f and its subproperties, as far as they are new, and returns the number of f.
func (t *table) add(f api.Ltl) int {
	s := sub{f.Kind, f.Prop, [2]int{-1, -1}}
	for i, kid := range f.Kids {
		s.kids[i] = t.add(kid)
	}
	n, ok := t.number[s]
	if !ok {
		n = len(t.all)
		t.all = append(t.all, s)
		t.number[s] = n
	}
	return n
}

// ordered returns all subproperties of the one with number root in the order in which
// they first occur, with kids numbered so.
func (t *table) ordered(root int) []sub {
	var all []sub
	places := make([]int, len(t.all)) // from 1 on
	var visit func(n int)
	visit = func(n int) {
		if n < 0 || places[n] > 0 {
			return
		}
		all = append(all, t.all[n])
		places[n] = len(all)
		for _, kid := range t.all[n].kids {
			visit(kid)
		}
	}
	visit(root)
	for i := range all {
		for k, kid := range all[i].kids {
			if kid >= 0 {
				all[i].kids[k] = places[kid] - 1
			}
		}
	}
	return all
}

// opposites returns the opposite of each atom and negated atom that has one.
func opposites(all []sub) map[int]int {
	of := map[int]int{}
	for n, s := range all {
		if s.kind == api.TNot {
			of[n], of[s.kids[0]] = s.kids[0], n
		}
	}
	return of
}
