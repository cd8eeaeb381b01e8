package decide

import (
	"slices"

	"plumbline/api"
	"plumbline/logic"
	"plumbline/omega"
	"plumbline/rel"
	"plumbline/term"
	"plumbline/zint"
)

// Trim returns fewer relations that hold together just where rs do: from the first
// to the last, each that is known to follow from the remaining ones is removed.
func Trim(rs []api.Rel, fuel int) []api.Rel {
	tidy, ok := rel.Tidy(rs)
	if !ok {
		return []api.Rel{rel.Least(term.Number(zint.Of(-1)))}
	}
	var kept []api.Rel
	for i, r := range tidy {
		others := slices.Concat(kept, tidy[i+1:])
		if yes, _ := Follows(together(others), logic.Of(r), fuel); !yes {
			kept = append(kept, r)
		}
	}
	return kept
}

// together is the conjunction of rs.
func together(rs []api.Rel) api.Form {
	var atoms []api.Form
	for _, r := range rs {
		atoms = append(atoms, logic.Of(r))
	}
	return logic.All(atoms...)
}

// Short returns a shorter formula that holds where f does. It returns False and
// ErrMany if f has too many lists.
func Short(f api.Form, fuel int) (api.Form, api.Errno) {
	cubes, e := logic.Cubes(f, api.MaxCubes)
	if e != api.OK {
		return logic.Truth(false), e
	}
	var shorter []api.Form
	for _, cube := range cubes {
		if can, known := omega.Can(cube, fuel); can || !known {
			shorter = append(shorter, together(Trim(cube, fuel)))
		}
	}
	return logic.Flat(logic.Any(shorter...)), api.OK
}
