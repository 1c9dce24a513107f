package seek

import (
	"unbent/api"
	"unbent/frac"
)

// need is a need of a game.
type need interface {
	rowsAt(m model, place int) []api.Row // those of the profile of a place
}

// part: each agent has at least what it has alone.
type part struct{}

// budget: the payments stand so to 0.
type budget struct{ sense int }

// bound: each payment is from -most to most.
type bound struct{ most api.Frac }

// envy: neither of two agents would rather be in the place of the other one.
type envy struct {
	agents [2]int
	swap   []int
}

// order: the chance of outs does not fall from a kind of the agent to its next one.
type order struct {
	agent int
	outs  []int
}

func needOf(n api.Need) need {
	switch n.Kind {
	case api.NeedPart:
		return part{}
	case api.NeedBudget:
		return budget{api.AtLeast}
	case api.NeedEven:
		return budget{api.Exact}
	case api.NeedBound:
		return bound{n.Bound}
	case api.NeedEnvy:
		return envy{[2]int{n.Agent, n.Other}, n.Swap}
	}
	return order{n.Agent, n.Outs}
}

func (part) rowsAt(m model, place int) []api.Row {
	var out []api.Row
	for agent, kind := range m.profiles[place] {
		row := m.blank(api.AtLeast, times(1, m.game.Agents[agent].Kinds[kind].Alone))
		m.use(row, 1, agent, kind, place)
		out = append(out, row)
	}
	return out
}

func (n budget) rowsAt(m model, place int) []api.Row {
	row := m.blank(n.sense, zero())
	for payer := range m.payers {
		m.pay(row, 1, payer, place)
	}
	return []api.Row{row}
}

func (n bound) rowsAt(m model, place int) []api.Row {
	var out []api.Row
	for agent := range m.game.Agents {
		most := m.blank(api.AtMost, times(1, n.most))
		least := m.blank(api.AtLeast, times(-1, n.most))
		m.pay(most, 1, agent, place)
		m.pay(least, 1, agent, place)
		out = append(out, most, least)
	}
	return out
}

func (n envy) rowsAt(m model, place int) []api.Row {
	first, second := n.agents[0], n.agents[1]
	return []api.Row{n.row(m, place, first, second), n.row(m, place, second, first)}
}

// row is that by which an agent would not rather be in the other one's place.
func (n envy) row(m model, place, agent, other int) api.Row {
	row := m.blank(api.AtLeast, zero())
	worths := m.worths(agent, m.profiles[place][agent])
	for o, swapped := range n.swap {
		row.A[m.chance(place, o)] = frac.Sub(worths[o], worths[swapped])
	}
	m.pay(row, -1, agent, place)
	m.pay(row, 1, other, place)
	return row
}

func (n order) rowsAt(m model, place int) []api.Row {
	next := m.profiles[place][n.agent] + 1
	if next == len(m.game.Agents[n.agent].Kinds) {
		return nil
	}
	row := m.blank(api.AtLeast, zero())
	for _, o := range n.outs {
		row.A[m.chance(m.place(place, n.agent, next), o)] = one()
		row.A[m.chance(place, o)] = times(-1, one())
	}
	return []api.Row{row}
}
