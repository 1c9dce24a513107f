package rule

import (
	"unbent/api"
	"unbent/frac"
)

// meets reports whether the rule meets a need.
func (l law) meets(n api.Need) bool {
	for place, profile := range l.all {
		if !l.meetsAt(n, place, profile) {
			return false
		}
	}
	return true
}

// meetsAt reports whether nothing at a profile speaks against a need.
func (l law) meetsAt(n api.Need, place int, profile []int) bool {
	pay := l.rule.Cells[place].Pay
	switch n.Kind {
	case api.NeedPart:
		return l.allTakePart(place, profile)
	case api.NeedBudget:
		return frac.Sign(frac.Sum(pay)) >= 0
	case api.NeedEven:
		return frac.Sign(frac.Sum(pay)) == 0
	case api.NeedBound:
		return within(pay, n.Bound)
	case api.NeedEnvy:
		return !l.envies(place, n.Agent, n.Other, n.Swap) && !l.envies(place, n.Other, n.Agent, n.Swap)
	}
	return l.rises(place, n.Agent, n.Outs)
}

// allTakePart reports whether each agent of its kind at a profile has at least what it has alone.
func (l law) allTakePart(place int, profile []int) bool {
	for agent, kind := range profile {
		if frac.Cmp(l.has(agent, kind, place), l.game.Agents[agent].Kinds[kind].Alone) < 0 {
			return false
		}
	}
	return true
}

// within reports whether all payments are from -bound to bound.
func within(pay []api.Frac, bound api.Frac) bool {
	for _, f := range pay {
		if frac.Cmp(f, bound) > 0 || frac.Cmp(frac.Neg(f), bound) > 0 {
			return false
		}
	}
	return true
}

// envies reports whether an agent of its kind at a profile would have more in the place of another one.
func (l law) envies(place, agent, other int, swap []int) bool {
	c := l.rule.Cells[place]
	kind := l.profiles[place][agent]
	var worths []api.Frac
	for _, o := range swap {
		worths = append(worths, l.game.Agents[agent].Kinds[kind].Worth[o])
	}
	return frac.Cmp(left(c.Lot, worths, c.Pay[other]), l.has(agent, kind, place)) > 0
}

// rises reports whether the chance of outs is no less than at a profile where only the agent's kind is the next one.
func (l law) rises(place, agent int, outs []int) bool {
	kind := l.profiles[place][agent]
	for to, said := range l.bent(place, []int{agent}) {
		if said[agent] == kind+1 && frac.Cmp(l.chance(to, outs), l.chance(place, outs)) < 0 {
			return false
		}
	}
	return true
}

// chance is the chance of any of outs at the profile of a place.
func (l law) chance(place int, outs []int) api.Frac {
	var out []api.Frac
	for _, o := range outs {
		out = append(out, l.rule.Cells[place].Lot[o])
	}
	return frac.Sum(out)
}
