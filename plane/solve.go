package plane

import (
	"unbent/api"
	"unbent/frac"
)

// Solve is an answer with a proof, which Judge accepts. Right's error; ErrSize, if there are more than SolveVars variables or SolveRows rows.
func Solve(p api.Prog) (api.Cert, api.Errno) {
	if e := Right(p); e != api.OK {
		return api.Cert{}, e
	}
	if p.Vars > api.SolveVars || len(p.Rows) > api.SolveRows {
		return api.Cert{}, api.ErrSize
	}
	t := newTable(p, roughly)
	return t.certify(p, t.solve()), api.OK
}

// certify is the certificate of what a program's table has come to. What a rough table tells may be wrong: it is taken if it is judged to be right, or if its numbers are too long to be told, which those of a finer table would be as well.
func (t *table) certify(p api.Prog, told answer) api.Cert {
	for _, next := range []int{finely, exactly} {
		at := t.corner(p)
		c := at.proof(told)
		if !t.rough || Judge(p, c) || t.longest == finely && at.tooLong() {
			return c
		}
		t = newTable(p, next)
		told = t.solve()
	}
	return t.corner(p).proof(told)
}

// corner is where a program's table has come to: the rows whose rests are 0, and as many variables, for which the table is solved. Its proofs are computed from the program alone.
type corner struct {
	prog       api.Prog
	rows, vars []int
	systems    []system // of which its proofs are solutions
}

// system is equations and their solution.
type system struct {
	rows     [][]api.Frac
	sides, x []api.Frac
}

func (t *table) corner(p api.Prog) *corner {
	c := &corner{prog: p}
	for _, v := range t.columns {
		if v >= p.Vars {
			c.rows = append(c.rows, v-p.Vars)
		}
	}
	for _, v := range t.solved {
		if v < p.Vars {
			c.vars = append(c.vars, v)
		}
	}
	return c
}

// proof is the certificate of an answer.
func (c *corner) proof(a answer) api.Cert {
	switch a.kind {
	case api.None:
		return api.Cert{Kind: a.kind, Y: c.contradiction(a)}
	case api.Endless:
		return api.Cert{Kind: a.kind, X: c.point(sides(c.prog)), Ray: c.ray(a)}
	}
	return api.Cert{Kind: a.kind, X: c.point(sides(c.prog)), Y: c.prices(entries(c.prog.Goal))}
}

// point is numbers of the program's variables under which the corner's rows sum to what is read for them; those that are not the corner's are 0.
func (c *corner) point(sums reader) []api.Frac {
	entry := func(i, j int) api.Frac { return c.prog.Rows[c.rows[i]].A[c.vars[j]] }
	return spread(c.prog.Vars, c.vars, c.solve(c.rows, len(c.vars), entry, sums))
}

// prices is numbers of the program's rows under which the columns of the corner's variables are what is read for them; those of rows that are not the corner's are 0.
func (c *corner) prices(columns reader) []api.Frac {
	entry := func(i, j int) api.Frac { return c.prog.Rows[c.rows[j]].A[c.vars[i]] }
	return spread(len(c.prog.Rows), c.rows, c.solve(c.vars, len(c.rows), entry, columns))
}

// solve is n numbers that solve an equation for each of some rows or variables; none if nothing does.
func (c *corner) solve(of []int, n int, entry func(i, j int) api.Frac, sums reader) []api.Frac {
	var s system
	for i, at := range of {
		s.rows = append(s.rows, read(n, func(j int) api.Frac { return entry(i, j) }))
		s.sides = append(s.sides, sums(at))
	}
	x, _, ok, _ := frac.Linear(s.rows, s.sides)
	if ok {
		s.x = x
		c.systems = append(c.systems, s)
	}
	return x
}

// spread is n numbers: some at their places, and 0 at others.
func spread(n int, places []int, numbers []api.Frac) []api.Frac {
	out := zeros(n)
	for i, f := range numbers {
		out[places[i]] = f
	}
	return out
}

// tooLong reports whether a solution is none as it is told: then numbers of it are told as 0.
func (c *corner) tooLong() bool {
	for _, s := range c.systems {
		for i, row := range s.rows {
			if frac.Cmp(product(entries(row), s.x), s.sides[i]) != 0 {
				return true
			}
		}
	}
	return false
}

// ray is how the program's variables change with one that betters the goal for ever.
func (c *corner) ray(a answer) []api.Frac {
	if row := a.variable - c.prog.Vars; row >= 0 {
		grown := integer(c.prog.Rows[row].Sense) // as the rest rises, so an AtMost row's sum falls, an AtLeast row's rises
		return c.point(only(row, grown))
	}
	out := c.point(scaled(column(c.prog.Rows, a.variable), integer(-a.side)))
	out[a.variable] = integer(a.side)
	return out
}

// contradiction is how often each row goes into an equation that does not hold of any numbers of its variables.
func (c *corner) contradiction(a answer) []api.Frac {
	row := a.variable - c.prog.Vars
	if row < 0 {
		return c.prices(only(a.variable, integer(1)))
	}
	sense := c.prog.Rows[row].Sense
	if sense == api.Exact {
		sense = a.side
	}
	out := c.prices(scaled(entries(c.prog.Rows[row].A), integer(sense)))
	out[row] = integer(-sense)
	return out
}

// only reads a number at one place, and 0 at others.
func only(place int, f api.Frac) reader {
	return func(at int) api.Frac {
		if at == place {
			return f
		}
		return api.Frac{}
	}
}

// scaled reads the same numbers times a factor.
func scaled(from reader, factor api.Frac) reader {
	return func(place int) api.Frac { return frac.Mul(from(place), factor) }
}
