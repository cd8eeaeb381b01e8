package term

import (
	"cmp"
	"slices"

	"plumbline/api"
	"plumbline/zint"
)

// Coef returns the coefficient of variable v in t.
func Coef(t api.Term, v int) api.Int {
	var c api.Int
	for _, p := range t.Parts {
		if p.V == v && v >= 0 {
			c = zint.Add(c, p.C)
		}
	}
	return c
}

// Has reports whether v has a coefficient other than 0.
func Has(t api.Term, v int) bool {
	return zint.Sign(Coef(t, v)) != 0
}

// Vars returns the variables with a coefficient other than 0, in increasing order.
func Vars(t api.Term) []int {
	var vs []int
	for _, p := range plain(t.Parts) {
		vs = append(vs, p.V)
	}
	return vs
}

// Value returns the value of t at the given values.
func Value(t api.Term, vals []api.Int) api.Int {
	sum := copied(t.K)
	for _, p := range t.Parts {
		if p.V >= 0 && p.V < len(vals) {
			sum = zint.Add(sum, zint.Mul(p.C, vals[p.V]))
		}
	}
	return sum
}

// Content returns the greatest common divisor of all coefficients (0 if there
// are no parts).
func Content(t api.Term) api.Int {
	var g api.Int
	for _, p := range plain(t.Parts) {
		g = zint.Gcd(g, p.C)
	}
	return g
}

// Shrink returns t with all numbers divided by the content, and K rounded down;
// and the content. Without parts, it returns the plain term and 0.
func Shrink(t api.Term) (api.Term, api.Int) {
	content := Content(t)
	if zint.Sign(content) == 0 {
		return Plain(t), content
	}
	shrunk := each(t, func(c api.Int) api.Int {
		q, _, _ := zint.Div(c, content)
		return q
	})
	return shrunk, content
}

// Cmp compares the parts of the plain terms one by one, and then K. It returns
// -1, 0 or 1.
func Cmp(a, b api.Term) int {
	parts := slices.CompareFunc(plain(a.Parts), plain(b.Parts), func(p, q api.Part) int {
		return cmp.Or(cmp.Compare(p.V, q.V), zint.Cmp(p.C, q.C))
	})
	return cmp.Or(parts, zint.Cmp(a.K, b.K))
}

// Same reports whether Cmp is 0.
func Same(a, b api.Term) bool {
	return Cmp(a, b) == 0
}
