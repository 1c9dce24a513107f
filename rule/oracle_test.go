package rule_test

import (
	"math/big"
	"slices"

	"unbent/api"
	"unbent/frac"
)

// What the chapter says, once more, in numbers of math/big: the tests hold the package against it.
type oracle struct {
	g api.Game
	r api.Rule
}

// value is the number of a fraction: of one that is not right 0.
func value(f api.Frac) *big.Rat {
	if !frac.Right(f) {
		return new(big.Rat)
	}
	out, ok := new(big.Rat).SetString(frac.Print(f))
	if !ok {
		panic("no number")
	}
	return out
}

// told is a fraction of a number.
func told(x *big.Rat) api.Frac {
	num, e := frac.Parse(x.Num().String())
	den, f := frac.Parse(x.Denom().String())
	if e != api.OK || f != api.OK {
		panic("a long number")
	}
	out, _ := frac.Div(num, den)
	return out
}

// profiles is all profiles, from that of all first kinds on, counted up from the right.
func (o oracle) profiles() [][]int {
	var out [][]int
	at := make([]int, len(o.g.Agents))
	for {
		out = append(out, slices.Clone(at))
		a := len(at) - 1
		for a >= 0 && at[a] == len(o.g.Agents[a].Kinds)-1 {
			at[a] = 0
			a--
		}
		if a < 0 {
			return out
		}
		at[a]++
	}
}

// cell is what is given at a profile.
func (o oracle) cell(profile []int) api.Cell {
	for i, p := range o.profiles() {
		if slices.Equal(p, profile) {
			return o.r.Cells[i]
		}
	}
	panic("no profile")
}

func with(profile []int, agent, kind int) []int {
	out := slices.Clone(profile)
	out[agent] = kind
	return out
}

// has is what an agent of a kind has at a profile.
func (o oracle) has(agent, kind int, profile []int) *big.Rat {
	c := o.cell(profile)
	out := new(big.Rat).Neg(value(c.Pay[agent]))
	for i, chance := range c.Lot {
		out.Add(out, new(big.Rat).Mul(value(chance), value(o.g.Agents[agent].Kinds[kind].Worth[i])))
	}
	return out
}

// gain is what an agent of its kind at a profile gains by telling another.
func (o oracle) gain(agent int, profile []int, said int) *big.Rat {
	kind := profile[agent]
	return new(big.Rat).Sub(o.has(agent, kind, with(profile, agent, said)), o.has(agent, kind, profile))
}

// lies is all lies of an agent, in their order.
func (o oracle) lies(agent int) []api.Lie {
	var out []api.Lie
	for _, profile := range o.profiles() {
		for said := range o.g.Agents[agent].Kinds {
			if said != profile[agent] {
				out = append(out, api.Lie{Agent: agent, Kind: profile[agent], Told: said, Profile: profile, Gain: told(o.gain(agent, profile, said))})
			}
		}
	}
	return out
}

func (o oracle) truthful() (api.Lie, bool) {
	for agent := range o.g.Agents {
		for _, lie := range o.lies(agent) {
			if value(lie.Gain).Sign() > 0 {
				return lie, false
			}
		}
	}
	return noLie(0, 0), true
}

func (o oracle) gains() []api.Lie {
	var out []api.Lie
	for agent := range o.g.Agents {
		most := noLie(agent, 0)
		for _, lie := range o.lies(agent) {
			if value(lie.Gain).Cmp(value(most.Gain)) > 0 {
				most = lie
			}
		}
		out = append(out, most)
	}
	return out
}

func (o oracle) paid(profile []int) *big.Rat {
	out := new(big.Rat)
	for _, f := range o.cell(profile).Pay {
		out.Add(out, value(f))
	}
	return out
}

// chance is that of some outcomes.
func (o oracle) chance(profile []int, outs []int) *big.Rat {
	out := new(big.Rat)
	for _, at := range outs {
		out.Add(out, value(o.cell(profile).Lot[at]))
	}
	return out
}

// envies reports whether an agent would rather be in another one's place.
func (o oracle) envies(profile []int, agent, other int, swap []int) bool {
	c := o.cell(profile)
	there := new(big.Rat).Neg(value(c.Pay[other]))
	for i, chance := range c.Lot {
		there.Add(there, new(big.Rat).Mul(value(chance), value(o.g.Agents[agent].Kinds[profile[agent]].Worth[swap[i]])))
	}
	return there.Cmp(o.has(agent, profile[agent], profile)) > 0
}

// broken reports whether a need is not met at a profile.
func (o oracle) broken(n api.Need, profile []int) bool {
	switch n.Kind {
	case api.NeedPart:
		for agent, kind := range profile {
			if o.has(agent, kind, profile).Cmp(value(o.g.Agents[agent].Kinds[kind].Alone)) < 0 {
				return true
			}
		}
	case api.NeedBudget:
		return o.paid(profile).Sign() < 0
	case api.NeedEven:
		return o.paid(profile).Sign() != 0
	case api.NeedBound:
		for _, f := range o.cell(profile).Pay {
			if new(big.Rat).Abs(value(f)).Cmp(value(n.Bound)) > 0 {
				return true
			}
		}
	case api.NeedEnvy:
		return o.envies(profile, n.Agent, n.Other, n.Swap) || o.envies(profile, n.Other, n.Agent, n.Swap)
	case api.NeedOrder:
		next := profile[n.Agent] + 1
		return next < len(o.g.Agents[n.Agent].Kinds) && o.chance(with(profile, n.Agent, next), n.Outs).Cmp(o.chance(profile, n.Outs)) < 0
	}
	return false
}

func (o oracle) meets() (int, bool) {
	for i, n := range o.g.Needs {
		for _, profile := range o.profiles() {
			if o.broken(n, profile) {
				return i, false
			}
		}
	}
	return -1, true
}

func (o oracle) aim() *big.Rat {
	var worst *big.Rat
	sum := new(big.Rat)
	for _, profile := range o.profiles() {
		weight, all := big.NewRat(1, 1), new(big.Rat)
		for agent, kind := range profile {
			has := o.has(agent, kind, profile)
			weight.Mul(weight, value(o.g.Agents[agent].Kinds[kind].Weight))
			all.Add(all, has)
			if worst == nil || has.Cmp(worst) < 0 {
				worst = has
			}
		}
		switch o.g.Aim {
		case api.AimTotal:
			all.Add(all, o.paid(profile))
		case api.AimPaid:
			all = o.paid(profile)
		}
		sum.Add(sum, all.Mul(all, weight))
	}
	if o.g.Aim == api.AimWorst {
		return worst
	}
	return sum
}

// better reports whether a joint lie is better for each member.
func (o oracle) better(j api.Joint) bool {
	said := slices.Clone(j.Profile)
	for i, agent := range j.Group {
		said[agent] = j.Told[i]
	}
	for _, agent := range j.Group {
		kind := j.Profile[agent]
		if o.has(agent, kind, said).Cmp(o.has(agent, kind, j.Profile)) <= 0 {
			return false
		}
	}
	return true
}

// said is all that members may say, the last one's changing fastest.
func (o oracle) said(members []int) [][]int {
	if len(members) == 0 {
		return [][]int{{}}
	}
	var out [][]int
	for kind := range o.g.Agents[members[0]].Kinds {
		for _, rest := range o.said(members[1:]) {
			out = append(out, append([]int{kind}, rest...))
		}
	}
	return out
}

// joints is all joint lies in their order, and, beside them, what groups say that is the truth, which is better for nobody.
func (o oracle) joints() []api.Joint {
	var out []api.Joint
	for number := range 1 << len(o.g.Agents) {
		var members []int
		for agent := range o.g.Agents {
			if number>>agent&1 == 1 {
				members = append(members, agent)
			}
		}
		if len(members) < 2 {
			continue
		}
		for _, profile := range o.profiles() {
			for _, said := range o.said(members) {
				out = append(out, api.Joint{Group: members, Told: said, Profile: profile})
			}
		}
	}
	return out
}

func (o oracle) group() (api.Joint, bool) {
	for _, j := range o.joints() {
		if o.better(j) {
			return j, true
		}
	}
	return api.Joint{}, false
}

// total is what an agent would have gained if it had told another kind wherever it reported one.
func (o oracle) total(agent, kind, said int, log []api.Seen) *big.Rat {
	out := new(big.Rat)
	for _, seen := range log {
		if seen.Profile[agent] == kind {
			times := new(big.Rat).SetInt64(int64(seen.Count))
			out.Add(out, times.Mul(times, o.gain(agent, seen.Profile, said)))
		}
	}
	return out
}

func (o oracle) audit(log []api.Seen) []api.Lie {
	var out []api.Lie
	for agent, a := range o.g.Agents {
		for kind := range a.Kinds {
			most := noLie(agent, kind)
			for said := range a.Kinds {
				if total := o.total(agent, kind, said, log); said != kind && total.Cmp(value(most.Gain)) > 0 {
					most = api.Lie{Agent: agent, Kind: kind, Told: said, Gain: told(total)}
				}
			}
			out = append(out, most)
		}
	}
	return out
}
