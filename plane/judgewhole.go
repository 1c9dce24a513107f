package plane

import (
	"slices"

	"unbent/api"
	"unbent/frac"
)

// JudgeWhole reports whether t proves its kind of the vectors that fit p and have 0 or 1 at each variable of whole; false if p or whole is not right, or the kind is none.
func JudgeWhole(p api.Prog, whole []int, t api.Tree) bool {
	if Right(p) != api.OK || !wholeAs(p, whole) {
		return false
	}
	switch t.Kind {
	case api.Best:
		limit := Value(p, t.X)
		return fitsWhole(p, whole, t.X) && newTrial(p, whole, t.Cases).proves(&limit)
	case api.None:
		return newTrial(p, whole, t.Cases).proves(nil)
	case api.Endless:
		return fitsWhole(p, whole, t.X) && leads(p, t.Ray) && all(whole, t.Ray, isZero)
	}
	return false
}

// wholeAs reports whether whole are numbers of p's variables, none of them twice or free.
func wholeAs(p api.Prog, whole []int) bool {
	return distinct(p, whole) && !slices.ContainsFunc(whole, func(v int) bool { return p.Free[v] })
}

// fitsWhole reports whether x fits p and has 0 or 1 at each variable of whole.
func fitsWhole(p api.Prog, whole []int, x []api.Frac) bool {
	return Fits(p, x) && all(whole, x, isBit)
}

// all reports whether something is true of the numbers that x has at all places.
func all(places []int, x []api.Frac, is func(f api.Frac) bool) bool {
	return !slices.ContainsFunc(places, func(place int) bool { return !is(x[place]) })
}

func isZero(f api.Frac) bool { return frac.Sign(f) == 0 }

func isBit(f api.Frac) bool { return isZero(f) || frac.Cmp(f, integer(1)) == 0 }

// boxed is p with one row more for each of whole, in which it is at most 1. The other rows are p's own.
func boxed(p api.Prog, whole []int) api.Prog {
	p.Rows = slices.Clone(p.Rows)
	for _, v := range whole {
		p.Rows = append(p.Rows, alone(p.Vars, v, api.AtMost, 1))
	}
	return p
}

// trial goes over a tree of cases.
type trial struct {
	prog    api.Prog // with the bounds of whole's variables
	whole   []int
	cases   []api.Case
	visited int
	vars    []int // on the way to the node, in order
	bits    []int // where the way goes
}

func newTrial(p api.Prog, whole []int, cases []api.Case) *trial {
	return &trial{prog: boxed(p, whole), whole: whole, cases: cases}
}

// proves reports whether the cases prove a limit; without one, that there is none.
func (t *trial) proves(limit *api.Frac) bool {
	return t.visit(0, limit)
}

func (t *trial) visit(node int, limit *api.Frac) bool {
	t.visited++
	if t.visited > len(t.cases) {
		return false
	}
	c := t.cases[node]
	if c.Var == -1 {
		return t.closed(c.Cert, limit)
	}
	if !slices.Contains(t.whole, c.Var) || slices.Contains(t.vars, c.Var) {
		return false
	}
	return t.enter(node, c.Zero, c.Var, 0, limit) && t.enter(node, c.One, c.Var, 1, limit)
}

// enter visits the node to which a node leads if its variable is bit.
func (t *trial) enter(node, next, variable, bit int, limit *api.Frac) bool {
	if next <= node || next >= len(t.cases) {
		return false
	}
	t.vars, t.bits = append(t.vars, variable), append(t.bits, bit)
	good := t.visit(next, limit)
	t.vars, t.bits = t.vars[:len(t.vars)-1], t.bits[:len(t.bits)-1]
	return good
}

// closed reports whether a certificate proves the limit of the vectors to which the way leads.
func (t *trial) closed(c api.Cert, limit *api.Frac) bool {
	p := bound(t.prog, t.vars, t.bits)
	if !Judge(p, c) {
		return false
	}
	return c.Kind == api.None || limit != nil && c.Kind == api.Best && frac.Cmp(Value(p, c.X), *limit) <= 0
}
