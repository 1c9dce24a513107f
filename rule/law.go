package rule

import (
	"iter"
	"slices"

	"unbent/api"
	"unbent/frac"
	"unbent/speech"
)

// law is a game and a rule that are good, ready to be asked.
type law struct {
	game     api.Game
	rule     api.Rule
	profiles [][]int
	has      func(agent, kind, place int) api.Frac // what an agent of a kind has at the profile of a place
}

func newLaw(g api.Game, r api.Rule) law {
	return law{game: g, rule: r, profiles: speech.Profiles(g), has: teller(g, r)}
}

// teller is a function that tells what an agent of a kind has at the profile of a place. It computes each such number once, however many lies it is asked for.
func teller(g api.Game, r api.Rule) func(agent, kind, place int) api.Frac {
	known := map[[3]int]api.Frac{}
	return func(agent, kind, place int) api.Frac {
		key := [3]int{agent, kind, place}
		f, ok := known[key]
		if !ok {
			f = had(g, r, agent, kind, place)
			known[key] = f
		}
		return f
	}
}

// had is what an agent of a kind has at the profile of a place.
func had(g api.Game, r api.Rule, agent, kind, place int) api.Frac {
	c := r.Cells[place]
	return left(c.Lot, g.Agents[agent].Kinds[kind].Worth, c.Pay[agent])
}

// left is what outcomes of such chances and worths are worth, less a payment. It is one sum of products, so that only what is left may not be too long.
func left(lot, worths []api.Frac, pay api.Frac) api.Frac {
	factors := append(slices.Clone(lot), frac.Neg(one()))
	return frac.Dot(factors, append(slices.Clone(worths), pay))
}

// all goes through the profiles in their order, with their places.
func (l law) all(yield func(place int, profile []int) bool) {
	for place, profile := range l.profiles {
		if !yield(place, profile) {
			return
		}
	}
}

// bent goes through what may be reported, in the order of profiles, instead of the profile of a place, if the members of a group say what they like and all others their kinds.
func (l law) bent(place int, members []int) iter.Seq2[int, []int] {
	truth := l.profiles[place]
	return func(yield func(int, []int) bool) {
		for to, said := range l.all {
			if to != place && alikeBut(members, truth, said) && !yield(to, said) {
				return
			}
		}
	}
}

// alikeBut reports whether two profiles are alike, but for the kinds of members.
func alikeBut(members []int, a, b []int) bool {
	for agent := range a {
		if a[agent] != b[agent] && !slices.Contains(members, agent) {
			return false
		}
	}
	return true
}

// place is the place of a profile; -1, if it is none.
func (l law) place(profile []int) int {
	same := func(p []int) bool { return slices.Equal(p, profile) }
	return slices.IndexFunc(l.profiles, same)
}

// worst is the least that an agent of its kind has at any profile.
func (l law) worst() api.Frac {
	var out []api.Frac
	for place, profile := range l.all {
		for agent, kind := range profile {
			out = append(out, l.has(agent, kind, place))
		}
	}
	return out[frac.Least(out)]
}

// expected is the sum, over profiles, of the weight times a value.
func (l law) expected(value func(place int, profile []int) api.Frac) api.Frac {
	var weights, values []api.Frac
	for place, profile := range l.all {
		weights = append(weights, speech.Weight(l.game, profile))
		values = append(values, value(place, profile))
	}
	return frac.Dot(weights, values)
}

// paid is the sum of the payments at a profile.
func (l law) paid(place int, _ []int) api.Frac { return frac.Sum(l.rule.Cells[place].Pay) }

// enjoyed is what all agents of their kinds have at a profile, payments not counted.
func (l law) enjoyed(place int, profile []int) api.Frac {
	var chances, worths []api.Frac
	for agent, kind := range profile {
		chances = append(chances, l.rule.Cells[place].Lot...)
		worths = append(worths, l.game.Agents[agent].Kinds[kind].Worth...)
	}
	return frac.Dot(chances, worths)
}
