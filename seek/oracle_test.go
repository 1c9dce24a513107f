package seek_test

import (
	"math/big"
	"slices"

	"unbent/api"
	"unbent/frac"
)

// What the chapter says of a game's program, once more, in numbers of math/big: a row is a function of what a rule gives, and its numbers are what the function tells where one variable is 1 and all others are 0.
type oracle struct {
	g   api.Game
	all [][]int
}

func newOracle(g api.Game) oracle {
	o := oracle{g: g}
	at := make([]int, len(g.Agents))
	for {
		o.all = append(o.all, slices.Clone(at))
		a := len(at) - 1
		for a >= 0 && at[a] == len(g.Agents[a].Kinds)-1 {
			at[a] = 0
			a--
		}
		if a < 0 {
			return o
		}
		at[a]++
	}
}

// value is the number of a fraction: of one that is not right 0.
func value(f api.Frac) *big.Rat {
	if !frac.Right(f) {
		return new(big.Rat)
	}
	out, ok := new(big.Rat).SetString(frac.Print(f))
	if !ok {
		panic("no number")
	}
	return out
}

// point is the variables of a program.
type point []*big.Rat

// step is how many variables a profile has.
func (o oracle) step() int {
	if o.g.Pay {
		return len(o.g.Outs) + len(o.g.Agents)
	}
	return len(o.g.Outs)
}

func (o oracle) vars() int {
	n := len(o.all) * o.step()
	if o.g.Aim == api.AimWorst {
		n++
	}
	return n
}

func (o oracle) at(profile []int) int {
	for i, p := range o.all {
		if slices.Equal(p, profile) {
			return i * o.step()
		}
	}
	panic("no profile")
}

func (o oracle) chance(x point, profile []int, out int) *big.Rat { return x[o.at(profile)+out] }

func (o oracle) pays(x point, profile []int, agent int) *big.Rat {
	if !o.g.Pay {
		return new(big.Rat)
	}
	return x[o.at(profile)+len(o.g.Outs)+agent]
}

func (o oracle) worth(agent, kind, out int) *big.Rat {
	return value(o.g.Agents[agent].Kinds[kind].Worth[out])
}

// use is what an agent of a kind has at a profile, if each outcome is worth to it what its swap is.
func (o oracle) use(x point, agent, kind int, profile []int, swap []int, payer int) *big.Rat {
	sum := new(big.Rat)
	for out := range o.g.Outs {
		to := out
		if swap != nil {
			to = swap[out]
		}
		sum.Add(sum, new(big.Rat).Mul(o.worth(agent, kind, to), o.chance(x, profile, out)))
	}
	return sum.Sub(sum, o.pays(x, profile, payer))
}

// cond is a condition: what a function tells is at most, exactly or at least a bound.
type cond struct {
	of    func(x point) *big.Rat
	sense int
	bound *big.Rat
}

func atLeast(bound *big.Rat, of func(x point) *big.Rat) cond { return cond{of, api.AtLeast, bound} }

func with(profile []int, agent, kind int) []int {
	out := slices.Clone(profile)
	out[agent] = kind
	return out
}

// conds is all conditions, in the order of rows.
func (o oracle) conds() []cond {
	var out []cond
	for _, p := range o.all {
		out = append(out, cond{func(x point) *big.Rat { return o.chances(x, p, len(o.g.Outs)) }, api.Exact, big.NewRat(1, 1)})
	}
	for i, a := range o.g.Agents {
		for _, p := range o.all {
			for k := range a.Kinds {
				if k != p[i] {
					out = append(out, atLeast(new(big.Rat), func(x point) *big.Rat {
						return new(big.Rat).Sub(o.use(x, i, p[i], p, nil, i), o.use(x, i, p[i], with(p, i, k), nil, i))
					}))
				}
			}
		}
	}
	for _, p := range o.all {
		for i := range o.g.Agents {
			if o.g.Aim == api.AimWorst {
				out = append(out, atLeast(new(big.Rat), func(x point) *big.Rat { return new(big.Rat).Sub(o.use(x, i, p[i], p, nil, i), x[len(x)-1]) }))
			}
		}
	}
	for _, n := range o.g.Needs {
		for _, p := range o.all {
			out = append(out, o.needed(n, p)...)
		}
	}
	return out
}

// chances is the sum of the first chances of a profile.
func (o oracle) chances(x point, profile []int, n int) *big.Rat {
	sum := new(big.Rat)
	for out := range n {
		sum.Add(sum, o.chance(x, profile, out))
	}
	return sum
}

func (o oracle) paid(x point, profile []int) *big.Rat {
	sum := new(big.Rat)
	for i := range o.g.Agents {
		sum.Add(sum, o.pays(x, profile, i))
	}
	return sum
}

// needed is the conditions of a need at a profile.
func (o oracle) needed(n api.Need, p []int) []cond {
	var out []cond
	switch n.Kind {
	case api.NeedPart:
		for i, a := range o.g.Agents {
			out = append(out, atLeast(value(a.Kinds[p[i]].Alone), func(x point) *big.Rat { return o.use(x, i, p[i], p, nil, i) }))
		}
	case api.NeedBudget, api.NeedEven:
		c := atLeast(new(big.Rat), func(x point) *big.Rat { return o.paid(x, p) })
		if n.Kind == api.NeedEven {
			c.sense = api.Exact
		}
		out = append(out, c)
	case api.NeedBound:
		for i := range o.g.Agents {
			pays := func(x point) *big.Rat { return o.pays(x, p, i) }
			out = append(out, cond{pays, api.AtMost, value(n.Bound)}, atLeast(new(big.Rat).Neg(value(n.Bound)), pays))
		}
	case api.NeedEnvy:
		for _, two := range [][2]int{{n.Agent, n.Other}, {n.Other, n.Agent}} {
			i, j := two[0], two[1]
			out = append(out, atLeast(new(big.Rat), func(x point) *big.Rat {
				return new(big.Rat).Sub(o.use(x, i, p[i], p, nil, i), o.use(x, i, p[i], p, n.Swap, j))
			}))
		}
	case api.NeedOrder:
		if next := p[n.Agent] + 1; next < len(o.g.Agents[n.Agent].Kinds) {
			out = append(out, atLeast(new(big.Rat), func(x point) *big.Rat {
				sum := new(big.Rat)
				for _, to := range n.Outs {
					sum.Add(sum, o.chance(x, with(p, n.Agent, next), to))
					sum.Sub(sum, o.chance(x, p, to))
				}
				return sum
			}))
		}
	}
	return out
}

// aim is what the program is to make great.
func (o oracle) aim(x point) *big.Rat {
	sum := new(big.Rat)
	if o.g.Aim == api.AimWorst {
		return sum.Set(x[len(x)-1])
	}
	for _, p := range o.all {
		here := o.paid(x, p)
		if o.g.Aim == api.AimTotal {
			here = new(big.Rat)
			for i := range o.g.Agents {
				here.Add(here, o.use(x, i, p[i], p, nil, i))
				here.Add(here, o.pays(x, p, i))
			}
		}
		for i, k := range p {
			here.Mul(here, value(o.g.Agents[i].Kinds[k].Weight))
		}
		sum.Add(sum, here)
	}
	return sum
}

// numbers is what a function tells where one variable is 1, for each.
func (o oracle) numbers(of func(x point) *big.Rat) point {
	x := make(point, o.vars())
	for v := range x {
		x[v] = new(big.Rat)
	}
	var out point
	for v := range x {
		x[v] = big.NewRat(1, 1)
		out = append(out, new(big.Rat).Set(of(x)))
		x[v] = new(big.Rat)
	}
	return out
}

// are reports whether numbers are right, and what is said.
func are(l []api.Frac, said point) bool {
	return slices.EqualFunc(l, said, func(f api.Frac, x *big.Rat) bool { return frac.Right(f) && value(f).Cmp(x) == 0 })
}
