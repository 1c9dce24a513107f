package seek

import (
	"slices"

	"unbent/api"
	"unbent/frac"
)

func zero() api.Frac { return frac.Fix(api.Frac{}) }

func one() api.Frac {
	f, _ := frac.Make(1, 1)
	return f
}

// zeros is n numbers that are 0, each in memory of its own.
func zeros(n int) []api.Frac {
	out := make([]api.Frac, n)
	for i := range out {
		out[i] = zero()
	}
	return out
}

// read sets a number to what stands at a place of a list, if the list is so long.
func read(to []api.Frac, at int, from []api.Frac, place int) {
	if place < len(from) {
		to[at] = frac.Fix(from[place])
	}
}

// times is a right number or, if sign is below 0, less it, in memory of its own. It costs much less than frac.Fix where numbers are long.
func times(sign int, f api.Frac) api.Frac {
	below := f.Neg != (sign < 0) && len(f.Num) > 0
	return api.Frac{Neg: below, Num: slices.Clone(f.Num), Den: slices.Clone(f.Den)}
}

func same(f, g api.Frac) bool { return frac.Cmp(f, g) == 0 }

func sameCell(c, d api.Cell) bool {
	return slices.EqualFunc(c.Lot, d.Lot, same) && slices.EqualFunc(c.Pay, d.Pay, same)
}

func fixed(l []api.Frac) []api.Frac {
	out := make([]api.Frac, len(l))
	for i, f := range l {
		out[i] = frac.Fix(f)
	}
	return out
}

// fixedGame is a game in memory of its own, its numbers right.
func fixedGame(g api.Game) api.Game {
	out := g
	out.Outs = slices.Clone(g.Outs)
	out.Agents, out.Needs = nil, nil
	for _, a := range g.Agents {
		var kinds []api.Kind
		for _, k := range a.Kinds {
			kinds = append(kinds, api.Kind{Name: k.Name, Weight: frac.Fix(k.Weight), Alone: frac.Fix(k.Alone), Worth: fixed(k.Worth)})
		}
		out.Agents = append(out.Agents, api.Agent{Name: a.Name, Kinds: kinds})
	}
	for _, n := range g.Needs {
		n.Bound, n.Outs, n.Swap = frac.Fix(n.Bound), slices.Clone(n.Outs), slices.Clone(n.Swap)
		out.Needs = append(out.Needs, n)
	}
	return out
}
