package pretty

import (
	"strconv"
	"strings"

	"plumbline/api"
	"plumbline/zint"
)

// unknown stands for a name that a system does not have.
const unknown = "?"

// Place returns the names of a process and of one of its locations, as in "p@a".
func Place(s api.Sys, proc, loc int) string {
	if !within(s.Procs, proc) {
		return unknown + "@" + unknown
	}
	return s.Procs[proc].Name + "@" + nameIn(s.Procs[proc].Locs, loc)
}

// Act returns the name of the process of an act, and the number of the act among
// those of this process, as in "p.1".
func Act(s api.Sys, i int) string {
	if !within(s.Acts, i) {
		return "stutter"
	}
	name, proc, number := unknown, s.Acts[i].Proc, 0
	if within(s.Procs, proc) {
		name = s.Procs[proc].Name
	}
	for _, a := range s.Acts[:i+1] {
		if a.Proc == proc {
			number++
		}
	}
	return name + "." + strconv.Itoa(number)
}

// State returns the locations and the values of a state, as in "p@a x=2".
func State(s api.Sys, x api.State) string {
	var parts []string
	for proc, loc := range x.Locs {
		parts = append(parts, Place(s, proc, loc))
	}
	for v, val := range x.Vals {
		parts = append(parts, nameIn(s.Vars, v)+"="+zint.Text(val))
	}
	return strings.Join(parts, " ")
}

func nameIn(names []string, i int) string {
	if !within(names, i) {
		return unknown
	}
	return names[i]
}

// within reports whether a list has an element with this index.
func within[T any](list []T, i int) bool {
	return i >= 0 && i < len(list)
}
