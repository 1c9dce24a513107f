package plane

import (
	"slices"

	"unbent/api"
	"unbent/frac"
)

// Normal is p with each AtLeast row turned to AtMost. Right's error.
func Normal(p api.Prog) (api.Prog, api.Errno) {
	if e := Right(p); e != api.OK {
		return api.Prog{}, e
	}
	out := fixed(p)
	for i, row := range out.Rows {
		if row.Sense == api.AtLeast {
			out.Rows[i] = api.Row{A: read(p.Vars, turned(entries(row.A))), Sense: api.AtMost, B: frac.Neg(row.B)}
		}
	}
	return out, api.OK
}

// Dual is the program of Normal(p)'s prices: a variable for each row, a row for each variable. Right's error; ErrProg, if p has no rows; ErrSize, if it has more than MaxVars.
func Dual(p api.Prog) (api.Prog, api.Errno) {
	n, e := Normal(p)
	switch {
	case e != api.OK:
		return api.Prog{}, e
	case len(n.Rows) == 0:
		return api.Prog{}, api.ErrProg
	case len(n.Rows) > api.MaxVars:
		return api.Prog{}, api.ErrSize
	}
	out := api.Prog{Vars: len(n.Rows), Goal: read(len(n.Rows), turned(sides(n)))}
	for _, row := range n.Rows {
		out.Free = append(out.Free, row.Sense == api.Exact)
	}
	for v := range n.Vars {
		row := api.Row{A: read(out.Vars, turned(column(n.Rows, v))), Sense: api.AtMost, B: frac.Neg(n.Goal[v])}
		if n.Free[v] {
			row.Sense = api.Exact
		}
		out.Rows = append(out.Rows, row)
	}
	return out, api.OK
}

// Fixed is p with one row more for each of vars, in which that variable is exactly its bit. Right's error; ErrProg, if vars and bits do not go together; ErrSize, if the rows would be more than MaxRows.
func Fixed(p api.Prog, vars, bits []int) (api.Prog, api.Errno) {
	if e := Right(p); e != api.OK {
		return api.Prog{}, e
	}
	if len(vars) != len(bits) || !distinct(p, vars) || slices.ContainsFunc(bits, func(bit int) bool { return bit != 0 && bit != 1 }) {
		return api.Prog{}, api.ErrProg
	}
	if len(p.Rows)+len(vars) > api.MaxRows {
		return api.Prog{}, api.ErrSize
	}
	return bound(fixed(p), vars, bits), api.OK
}

// bound is p with one row more for each of vars, in which that variable is exactly its bit. The other rows are p's own.
func bound(p api.Prog, vars, bits []int) api.Prog {
	p.Rows = slices.Clone(p.Rows)
	for i, v := range vars {
		p.Rows = append(p.Rows, alone(p.Vars, v, api.Exact, bits[i]))
	}
	return p
}

// distinct reports whether vars are numbers of p's variables, none of them twice.
func distinct(p api.Prog, vars []int) bool {
	seen := make([]bool, p.Vars)
	for _, v := range vars {
		if v < 0 || v >= p.Vars || seen[v] {
			return false
		}
		seen[v] = true
	}
	return true
}

// alone is a row of one variable, whose number is 1.
func alone(vars, variable, sense, right int) api.Row {
	row := api.Row{A: zeros(vars), Sense: sense, B: integer(right)}
	row.A[variable] = integer(1)
	return row
}

// integer is a whole number as a fraction.
func integer(n int) api.Frac {
	f, _ := frac.Make(n, 1)
	return f
}

// fixed is a right program in memory of its own, with right fractions.
func fixed(p api.Prog) api.Prog {
	out := api.Prog{Vars: p.Vars, Free: slices.Clone(p.Free), Goal: read(p.Vars, entries(p.Goal))}
	for _, row := range p.Rows {
		out.Rows = append(out.Rows, api.Row{A: read(p.Vars, entries(row.A)), Sense: row.Sense, B: frac.Fix(row.B)})
	}
	return out
}

// read is the first n numbers that a reader reads, as right fractions in memory of their own.
func read(n int, from reader) []api.Frac {
	out := make([]api.Frac, n)
	for i := range n {
		out[i] = frac.Fix(from(i))
	}
	return out
}

// turned reads the same numbers times -1.
func turned(from reader) reader {
	return func(place int) api.Frac { return frac.Neg(from(place)) }
}
