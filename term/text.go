package term

import (
	"strconv"
	"strings"

	"plumbline/api"
	"plumbline/zint"
)

// Name returns the element of names with index v, or, if there is none, "v"
// followed by the decimal digits of v.
func Name(v int, names []string) string {
	if v >= 0 && v < len(names) {
		return names[v]
	}
	return "v" + strconv.Itoa(v)
}

// Text returns t in the form "3*x - y + 2".
func Text(t api.Term, names []string) string {
	var text strings.Builder
	ps := plain(t.Parts)
	for _, p := range ps {
		writeSign(&text, p.C)
		if size := zint.Text(zint.Abs(p.C)); size != "1" {
			text.WriteString(size + "*")
		}
		text.WriteString(Name(p.V, names))
	}
	if zint.Sign(t.K) != 0 || len(ps) == 0 {
		writeSign(&text, t.K)
		text.WriteString(zint.Text(zint.Abs(t.K)))
	}
	return text.String()
}

// writeSign writes what stands before the absolute value of n. What matters is
// whether text is empty, not whether there was a part: its name may be empty.
func writeSign(text *strings.Builder, n api.Int) {
	neg := zint.Sign(n) < 0
	switch {
	case text.Len() > 0 && neg:
		text.WriteString(" - ")
	case text.Len() > 0:
		text.WriteString(" + ")
	case neg:
		text.WriteString("-")
	}
}
