package logic

import (
	"slices"

	"plumbline/api"
	"plumbline/rel"
)

// Cubes returns the disjunctive normal form of f: lists of relations such that f
// holds exactly where all relations of at least one list hold. It returns ErrMany
// if the flat formula or a part of it has more than most lists.
func Cubes(f api.Form, most int) ([][]api.Rel, api.Errno) {
	flat := Flat(f)
	if _, ok := count(flat, max(most, 0)); !ok {
		return nil, api.ErrMany
	}
	var lists [][]api.Rel
	combine(&todo{f: flat}, nil, func(list []api.Rel) {
		if tidy, ok := rel.Tidy(list); ok {
			lists = append(lists, tidy)
		}
	})
	return lists, api.OK
}

// count returns how many lists a flat formula has, or false if it or a part of it
// has more than most. Kids of a flat formula have at least one list, so that the
// product for the first kids of an And is never more than that for all of them.
func count(f api.Form, most int) (int, bool) {
	switch f.Kind {
	case api.False:
		return 0, true
	case api.And:
		return countAll(f.Kids, most)
	case api.Or:
		return countAny(f.Kids, most)
	}
	return 1, most >= 1
}

func countAll(kids []api.Form, most int) (int, bool) {
	product := 1
	for _, kid := range kids {
		n, ok := count(kid, most)
		if !ok || n > most/product {
			return 0, false
		}
		product *= n
	}
	return product, true
}

func countAny(kids []api.Form, most int) (int, bool) {
	sum := 0
	for _, kid := range kids {
		n, ok := count(kid, most)
		if !ok || n > most-sum {
			return 0, false
		}
		sum += n
	}
	return sum, true
}

// todo is a conjunction: f and what the following say.
type todo struct {
	f    api.Form
	next *todo
}

// combine visits the lists of the conjunction of list and open, which are flat formulas,
// but for lists that Tidy would omit anyway: if it does so for the relations that several
// lists begin with, none of these is made. What is visited is overwritten afterwards.
func combine(open *todo, list []api.Rel, visit func([]api.Rel)) {
	for open != nil {
		f := open.f
		open = open.next
		switch f.Kind {
		case api.False:
			return
		case api.Atom:
			list = append(list, f.R)
		case api.And:
			open = allOf(f.Kids, open)
		case api.Or:
			tidy, ok := rel.Tidy(list)
			if !ok {
				return
			}
			for _, kid := range f.Kids {
				combine(&todo{kid, open}, tidy, visit)
			}
			return
		}
	}
	visit(list)
}

// allOf puts kids before what follows them.
func allOf(kids []api.Form, next *todo) *todo {
	for _, kid := range slices.Backward(kids) {
		next = &todo{kid, next}
	}
	return next
}
