package seek

import (
	"iter"
	"slices"

	"unbent/api"
	"unbent/frac"
	"unbent/speech"
)

// shape is where a game's numbers stand in its program.
type shape struct {
	profiles     [][]int
	outs, payers int // outcomes, and agents whose payments are variables
	floored      bool
}

// newShape is the shape of a game; one that is not right has no profiles.
func newShape(g api.Game) shape {
	s := shape{profiles: speech.Profiles(g), outs: len(g.Outs), floored: g.Aim == api.AimWorst}
	if g.Pay {
		s.payers = len(g.Agents)
	}
	return s
}

func (s shape) chance(place, out int) int { return place*(s.outs+s.payers) + out }

func (s shape) payment(place, agent int) int { return s.chance(place, s.outs+agent) }

// floor is the variable behind all chances and payments.
func (s shape) floor() int { return s.chance(len(s.profiles), 0) }

func (s shape) vars() int {
	if s.floored {
		return s.floor() + 1
	}
	return s.floor()
}

// place is that of the profile in which an agent tells a kind instead of its own at the profile of a place.
func (s shape) place(place, agent, kind int) int {
	told := speech.Put(s.profiles[place], agent, kind)
	return slices.IndexFunc(s.profiles, func(p []int) bool { return slices.Equal(p, told) })
}

// model is a game of which a program is made. Its numbers are right.
type model struct {
	shape
	game api.Game
}

func newModel(g api.Game) model { return model{newShape(g), fixedGame(g)} }

// free tells of each variable whether it may be below 0: all but chances may.
func (m model) free() []bool {
	out := make([]bool, m.vars())
	for v := range out {
		out[v] = true
	}
	for place := range m.profiles {
		for o := range m.outs {
			out[m.chance(place, o)] = false
		}
	}
	return out
}

// goal is what each variable is worth by the game's aim.
func (m model) goal() []api.Frac {
	out := zeros(m.vars())
	if m.game.Aim == api.AimWorst {
		out[m.floor()] = one()
		return out
	}
	for place, profile := range m.profiles {
		weight := speech.Weight(m.game, profile)
		if m.game.Aim == api.AimPaid {
			for payer := range m.payers {
				out[m.payment(place, payer)] = times(1, weight)
			}
			continue
		}
		for o := range m.outs {
			out[m.chance(place, o)] = frac.Mul(weight, m.total(profile, o))
		}
	}
	return out
}

// total is what an outcome is worth to all agents of their kinds in a profile.
func (m model) total(profile []int, out int) api.Frac {
	var worths []api.Frac
	for agent, kind := range profile {
		worths = append(worths, m.worths(agent, kind)[out])
	}
	return frac.Sum(worths)
}

func (m model) worths(agent, kind int) []api.Frac { return m.game.Agents[agent].Kinds[kind].Worth }

// rows goes through the program's rows, in their order.
func (m model) rows() iter.Seq[api.Row] {
	groups := []iter.Seq[api.Row]{m.sums, m.truths}
	if m.floored {
		groups = append(groups, m.floors)
	}
	for _, n := range m.game.Needs {
		groups = append(groups, m.needed(needOf(n)))
	}
	return func(yield func(api.Row) bool) {
		for _, group := range groups {
			for row := range group {
				if !yield(row) {
					return
				}
			}
		}
	}
}

// sums goes through the rows by which the chances of each profile sum to 1.
func (m model) sums(yield func(api.Row) bool) {
	for place := range m.profiles {
		row := m.blank(api.Exact, one())
		for o := range m.outs {
			row.A[m.chance(place, o)] = one()
		}
		if !yield(row) {
			return
		}
	}
}

// truths goes through the rows by which no lie gains.
func (m model) truths(yield func(api.Row) bool) {
	for agent, a := range m.game.Agents {
		for place, profile := range m.profiles {
			for told := range a.Kinds {
				kind := profile[agent]
				if told != kind && !yield(m.truth(agent, kind, place, m.place(place, agent, told))) {
					return
				}
			}
		}
	}
}

// truth is the row by which an agent of a kind has no less at a place than at another one.
func (m model) truth(agent, kind, place, other int) api.Row {
	row := m.blank(api.AtLeast, zero())
	m.use(row, 1, agent, kind, place)
	m.use(row, -1, agent, kind, other)
	return row
}

// floors goes through the rows by which no agent has less than the floor.
func (m model) floors(yield func(api.Row) bool) {
	for place, profile := range m.profiles {
		for agent, kind := range profile {
			row := m.blank(api.AtLeast, zero())
			m.use(row, 1, agent, kind, place)
			row.A[m.floor()] = times(-1, one())
			if !yield(row) {
				return
			}
		}
	}
}

// needed goes through the rows of a need.
func (m model) needed(n need) iter.Seq[api.Row] {
	return func(yield func(api.Row) bool) {
		for place := range m.profiles {
			for _, row := range n.rowsAt(m, place) {
				if !yield(row) {
					return
				}
			}
		}
	}
}

// blank is a row in which no variable stands yet.
func (m model) blank(sense int, bound api.Frac) api.Row {
	return api.Row{A: zeros(m.vars()), Sense: sense, B: bound}
}

// use puts into a row what an agent of a kind has at a place, or, if sign is below 0, less it.
func (m model) use(row api.Row, sign, agent, kind, place int) {
	for o, worth := range m.worths(agent, kind) {
		row.A[m.chance(place, o)] = times(sign, worth)
	}
	m.pay(row, -sign, agent, place)
}

// pay puts an agent's payment at a place into a row, or less it; without payments nothing.
func (m model) pay(row api.Row, sign, agent, place int) {
	if agent < m.payers {
		row.A[m.payment(place, agent)] = times(sign, one())
	}
}
