package word

import (
	"slices"

	"plumbline/api"
)

// counted returns f as far as it counts, with its missing kids. The kids are only to be
// read.
func counted(f api.Ltl) api.Ltl {
	switch f.Kind {
	case api.TTrue, api.TFalse:
		return api.Ltl{Kind: f.Kind}
	case api.TCmp:
		return api.Ltl{Kind: api.TCmp, Prop: f.Prop}
	case api.TNot, api.TNext, api.TAll, api.TSome:
		return api.Ltl{Kind: f.Kind, Kids: first(f.Kids, 1)}
	case api.TAnd, api.TOr, api.TImp, api.TUntil, api.TFree:
		return api.Ltl{Kind: f.Kind, Kids: first(f.Kids, 2)}
	}
	return constant(false)
}

// first returns the first n kids, those that are missing as TFalse.
func first(kids []api.Ltl, n int) []api.Ltl {
	kids = slices.Clip(kids[:min(len(kids), n)])
	for len(kids) < n {
		kids = append(kids, constant(false))
	}
	return kids
}

func constant(truth bool) api.Ltl {
	if truth {
		return api.Ltl{Kind: api.TTrue}
	}
	return api.Ltl{Kind: api.TFalse}
}

func of(kind int, kids ...api.Ltl) api.Ltl {
	return api.Ltl{Kind: kind, Kids: kids}
}

// Plain returns a property of few kinds that holds exactly where f holds or, if deny
// is set, where it does not hold.
func Plain(f api.Ltl, deny bool) api.Ltl {
	f = counted(f)
	switch f.Kind {
	case api.TCmp:
		if deny {
			return of(api.TNot, f)
		}
		return f
	case api.TNot:
		return Plain(f.Kids[0], !deny)
	case api.TImp:
		f = of(api.TOr, of(api.TNot, f.Kids[0]), f.Kids[1])
	case api.TAll:
		f = of(api.TFree, constant(false), f.Kids[0])
	case api.TSome:
		f = of(api.TUntil, constant(true), f.Kids[0])
	}
	plain := api.Ltl{Kind: f.Kind}
	if deny {
		plain.Kind = dual(f.Kind)
	}
	for _, kid := range f.Kids {
		plain.Kids = append(plain.Kids, Plain(kid, deny))
	}
	return plain
}

// dual returns the kind that a negation makes of a kind when it is moved inwards.
func dual(kind int) int {
	switch kind {
	case api.TTrue:
		return api.TFalse
	case api.TFalse:
		return api.TTrue
	case api.TAnd:
		return api.TOr
	case api.TOr:
		return api.TAnd
	case api.TUntil:
		return api.TFree
	case api.TFree:
		return api.TUntil
	}
	return kind // X
}

// Size returns the number of properties in f, with its missing kids.
func Size(f api.Ltl) int {
	size := 1
	for _, kid := range counted(f).Kids {
		size += Size(kid)
	}
	return size
}

// Same reports whether f and g are equal, as far as they count.
func Same(f, g api.Ltl) bool {
	f, g = counted(f), counted(g)
	return f.Kind == g.Kind && f.Prop == g.Prop && slices.EqualFunc(f.Kids, g.Kids, Same)
}
