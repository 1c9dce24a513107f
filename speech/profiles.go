package speech

import (
	"slices"

	"unbent/api"
	"unbent/frac"
)

// profilesOf is how many profiles agents have.
func profilesOf(agents []api.Agent) int {
	n := 1
	for _, a := range agents {
		n *= len(a.Kinds)
	}
	return n
}

// Profiles is all profiles of a right game, the last agent's kind changing fastest; of others none.
func Profiles(g api.Game) [][]int {
	if Right(g) != api.OK {
		return nil
	}
	out := [][]int{nil}
	for _, a := range g.Agents {
		var longer [][]int
		for _, profile := range out {
			for kind := range a.Kinds {
				longer = append(longer, append(slices.Clone(profile), kind))
			}
		}
		out = longer
	}
	return out
}

// Index is the place of a profile of a right game among Profiles; -1 if it is none.
func Index(g api.Game, profile []int) int {
	if Right(g) != api.OK || len(profile) != len(g.Agents) {
		return -1
	}
	place := 0
	for a, kind := range profile {
		kinds := len(g.Agents[a].Kinds)
		if kind < 0 || kind >= kinds {
			return -1
		}
		place = place*kinds + kind
	}
	return place
}

// Put is a list like profile, with kind at the place agent, if there is such a place.
func Put(profile []int, agent, kind int) []int {
	out := slices.Clone(profile)
	if agent >= 0 && agent < len(out) {
		out[agent] = kind
	}
	return out
}

// Weight is the product of the weights of a profile's kinds; 0, if it is no profile of a right game.
func Weight(g api.Game, profile []int) api.Frac {
	if Index(g, profile) < 0 {
		return frac.Fix(api.Frac{})
	}
	var weights []api.Frac
	for a, kind := range profile {
		weights = append(weights, g.Agents[a].Kinds[kind].Weight)
	}
	return product(weights)
}

// product is the product of factors, one at least. It is the last number of a system of equations, each number but the first being its factor times the one ahead: there only the result must not be too long, while of products one by one each must not.
func product(factors []api.Frac) api.Frac {
	n := len(factors)
	one, _ := frac.Make(1, 1)
	rows := make([][]api.Frac, n)
	for i := range rows {
		rows[i] = make([]api.Frac, n) // an empty fraction stands for 0
		rows[i][i] = one
		if i > 0 {
			rows[i][i-1] = frac.Neg(factors[i])
		}
	}
	right := make([]api.Frac, n)
	right[0] = factors[0]
	x, _, _, _ := frac.Linear(rows, right)
	return x[n-1]
}
