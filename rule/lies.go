package rule

import (
	"iter"
	"slices"

	"unbent/api"
	"unbent/frac"
)

// noLie stands for no lie of an agent and kind.
func noLie(agent, kind int) api.Lie {
	return api.Lie{Agent: agent, Kind: kind, Told: -1, Gain: zero()}
}

func gainsMore(a, b api.Lie) bool { return frac.Cmp(a.Gain, b.Gain) > 0 }

// best is, of the first one and others behind it, the first that no other is better than.
func best[T any](first T, others iter.Seq[T], better func(a, b T) bool) T {
	chosen := first
	for other := range others {
		if better(other, chosen) {
			chosen = other
		}
	}
	return chosen
}

// lies goes through all lies of an agent in their order, with what they gain.
func (l law) lies(agent int) iter.Seq[api.Lie] {
	return func(yield func(api.Lie) bool) {
		for place, profile := range l.all {
			kind := profile[agent]
			for to, said := range l.bent(place, []int{agent}) {
				gain := frac.Sub(l.has(agent, kind, to), l.has(agent, kind, place))
				lie := api.Lie{Agent: agent, Kind: kind, Told: said[agent], Profile: slices.Clone(profile), Gain: gain}
				if !yield(lie) {
					return
				}
			}
		}
	}
}

// counts is how often each profile was seen; false, if an entry of the log is wrong.
func (l law) counts(log []api.Seen) ([]api.Frac, bool) {
	out := make([]api.Frac, len(l.profiles)) // an empty fraction stands for 0
	for _, seen := range log {
		place := l.place(seen.Profile)
		if place < 0 || seen.Count < 0 {
			return nil, false
		}
		count, _ := frac.Make(seen.Count, 1)
		out[place] = frac.Add(out[place], count)
	}
	return out, true
}

// totals is, for each kind of an agent, a lie for each other kind in order, with what telling it would have gained wherever the agent reported the first one.
func (l law) totals(agent int, counts []api.Frac) [][]api.Lie {
	kinds := len(l.game.Agents[agent].Kinds)
	out := make([][]api.Lie, kinds)
	lies := slices.Collect(l.lies(agent))
	for kind := range kinds {
		for told := range kinds {
			if told != kind {
				gain := l.total(lies, kind, told, counts)
				out[kind] = append(out[kind], api.Lie{Agent: agent, Kind: kind, Told: told, Gain: gain})
			}
		}
	}
	return out
}

// total is the sum of what the lies that tell one kind for another gain, each as often as its profile was seen.
func (l law) total(lies []api.Lie, kind, told int, counts []api.Frac) api.Frac {
	var times, gains []api.Frac
	for _, lie := range lies {
		if lie.Kind == kind && lie.Told == told {
			times = append(times, counts[l.place(lie.Profile)])
			gains = append(gains, lie.Gain)
		}
	}
	return frac.Dot(times, gains)
}
