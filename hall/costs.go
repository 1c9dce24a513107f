package hall

import (
	"unbent/api"
	"unbent/frac"
)

// rightCosts reports whether there is a cost for each group of so many agents, that of nobody is 0, none is below that of a group within it, and for any two groups those of what is in either and of what is in both sum to no more than theirs. It is enough to ask it where one, or two, come to a group: larger steps are made of these.
func rightCosts(cost []api.Frac, agents int) bool {
	if len(cost) != 1<<agents || frac.Sign(cost[0]) != 0 {
		return false
	}
	for group := range cost {
		for one := range agents {
			if isIn(group, one) {
				continue
			}
			if frac.Cmp(cost[join(group, one)], cost[group]) < 0 {
				return false
			}
			for other := range one {
				if !isIn(group, other) && dearerTogether(cost, group, one, other) {
					return false
				}
			}
		}
	}
	return true
}

// dearerTogether reports whether two add more to the cost of a group, if both come to it, than each of them alone in all. It is one sum, so that only the sum itself may not be too long.
func dearerTogether(cost []api.Frac, group, one, other int) bool {
	with, also := join(group, one), join(group, other)
	together := []api.Frac{cost[with|also], cost[group], frac.Neg(cost[with]), frac.Neg(cost[also])}
	return frac.Sign(frac.Sum(together)) > 0
}

// shares is what each agent of a group pays, its share of the group's cost; 0 of the others.
func shares(cost []api.Frac, agents, group int) []api.Frac {
	var out []api.Frac
	for agent := range agents {
		pay := frac.Fix(api.Frac{})
		if isIn(group, agent) {
			pay = share(cost, leave(group, agent), agent)
		}
		out = append(out, pay)
	}
	return out
}

// share is what an agent adds to the cost of those ahead of it, on the average over all orders of others and itself. Those ahead are just the agents of a group in as many orders as there are of the group, times those of the rest.
func share(cost []api.Frac, others, agent int) api.Frac {
	size := len(membersOf(others))
	var chances, costs []api.Frac
	for first := range cost {
		if first&^others != 0 {
			continue
		}
		n := len(membersOf(first))
		chance, _ := frac.Make(factorial(n)*factorial(size-n), factorial(size+1))
		chances = append(chances, chance, frac.Neg(chance))
		costs = append(costs, cost[join(first, agent)], cost[first])
	}
	return frac.Dot(chances, costs)
}

// able is those of a group whose bids are no less than what they are to pay.
func able(group int, bids, pays []api.Frac) int {
	out := group
	for _, agent := range membersOf(group) {
		if frac.Cmp(bids[agent], pays[agent]) < 0 {
			out = leave(out, agent)
		}
	}
	return out
}
