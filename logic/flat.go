package logic

import (
	"plumbline/api"
	"plumbline/rel"
)

// Flat returns a flat formula that holds where f does.
func Flat(f api.Form) api.Form {
	return merged(reduced(f, false))
}

// reduced returns f, or its negation, as a formula that is flat but for kids of
// the kind of their parent. These are merged when all is reduced: an And with one
// remaining kid, an Or, may stand in an Or.
func reduced(f api.Form, negated bool) api.Form {
	switch {
	case f.Kind == api.Atom && !negated:
		return tight(f.R)
	case f.Kind == api.Atom:
		return denied(f.R)
	case f.Kind == api.Not && len(f.Kids) > 0:
		return reduced(f.Kids[0], !negated)
	case f.Kind != api.And && f.Kind != api.Or:
		return Truth((f.Kind == api.True) != negated)
	}
	kids := make([]api.Form, len(f.Kids))
	for i, kid := range f.Kids {
		kids[i] = reduced(kid, negated)
	}
	if (f.Kind == api.And) != negated {
		return and(kids...)
	}
	return or(kids...)
}

// tight returns the Atom of r made tight, or True or False.
func tight(r api.Rel) api.Form {
	tight, truth := rel.Tight(r)
	if truth != 0 {
		return Truth(truth > 0)
	}
	return api.Form{Kind: api.Atom, R: tight}
}

// denied returns what holds where r does not.
func denied(r api.Rel) api.Form {
	var kids []api.Form
	for _, d := range rel.Deny(r) {
		kids = append(kids, tight(d))
	}
	return or(kids...)
}

// and returns the conjunction of reduced kids.
func and(kids ...api.Form) api.Form {
	return joined(api.And, api.True, api.False, kids)
}

// or returns the disjunction of reduced kids.
func or(kids ...api.Form) api.Form {
	return joined(api.Or, api.False, api.True, kids)
}

// joined returns the formula of a kind with those kids that are not neutral, or
// what it is replaced by. A kid that decides makes the formula what the kid is.
func joined(kind, neutral, decides int, kids []api.Form) api.Form {
	var rest []api.Form
	for _, kid := range kids {
		switch kid.Kind {
		case decides:
			return kid
		case neutral:
		default:
			rest = append(rest, kid)
		}
	}
	switch len(rest) {
	case 0:
		return api.Form{Kind: neutral}
	case 1:
		return rest[0]
	}
	return api.Form{Kind: kind, Kids: rest}
}

// merged returns a reduced formula with the kids of a kid of the same kind in the
// place of that kid.
func merged(f api.Form) api.Form {
	f.Kids = addKids(nil, f)
	return f
}

// addKids appends the kids that f has when it is merged.
func addKids(kids []api.Form, f api.Form) []api.Form {
	for _, kid := range f.Kids {
		if kid.Kind == f.Kind {
			kids = addKids(kids, kid)
		} else {
			kids = append(kids, merged(kid))
		}
	}
	return kids
}
