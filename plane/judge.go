package plane

import (
	"unbent/api"
	"unbent/frac"
)

// Judge reports whether c proves its kind; false if p is not right or the kind is none.
func Judge(p api.Prog, c api.Cert) bool {
	if Right(p) != api.OK {
		return false
	}
	switch c.Kind {
	case api.Best:
		return Fits(p, c.X) && bounds(p, c.Y, p.Goal) && frac.Cmp(product(sides(p), c.Y), Value(p, c.X)) == 0
	case api.None:
		return bounds(p, c.Y, zeros(p.Vars)) && frac.Sign(product(sides(p), c.Y)) < 0
	case api.Endless:
		return Fits(p, c.X) && leads(p, c.Ray)
	}
	return false
}

// sides reads the rows' right sides.
func sides(p api.Prog) reader {
	return func(row int) api.Frac { return p.Rows[row].B }
}

// bounds reports whether y has the signs of p, and each variable's column under y is at least what goal has for it, and just that if the variable is free.
func bounds(p api.Prog, y, goal []api.Frac) bool {
	if len(y) != len(p.Rows) {
		return false
	}
	for row, f := range y {
		if s := p.Rows[row].Sense; s != api.Exact && frac.Sign(f) == s {
			return false
		}
	}
	for v := range p.Vars {
		order := frac.Cmp(product(column(p.Rows, v), y), goal[v])
		if order < 0 || order > 0 && p.Free[v] {
			return false
		}
	}
	return true
}

// leads reports whether ray leads along p's rows to ever greater values.
func leads(p api.Prog, ray []api.Frac) bool {
	if len(ray) != p.Vars || !signedAs(p, ray) {
		return false
	}
	for _, row := range p.Rows {
		if !holds(row.Sense, frac.Sign(product(entries(row.A), ray))) {
			return false
		}
	}
	return frac.Sign(Value(p, ray)) > 0
}
