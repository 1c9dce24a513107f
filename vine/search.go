package vine

import (
	"iter"
	"slices"

	"unbent/api"
	"unbent/frac"
	"unbent/speech"
)

// law is a plain rule as the search asks for it. The search compares the same numbers in many cells, so they are compared once, and it works with their ranks.
type law struct {
	profiles [][]int
	ends     []api.Node                         // what the rule gives at each profile
	first    []int                              // the first profile at which it gives the same
	ranks    [api.MaxAgents][api.MaxKinds][]int // how many profiles are of less use to an agent of a kind than each
}

func newLaw(g api.Game, r api.Rule) law {
	l := law{profiles: speech.Profiles(g)}
	for _, c := range r.Cells {
		end := endOf(slices.IndexFunc(c.Lot, isOne), c.Pay)
		same := func(other api.Node) bool { return sameEnds(other, end) }
		l.ends = append(l.ends, end)
		l.first = append(l.first, slices.IndexFunc(l.ends, same))
	}
	for agent, a := range g.Agents {
		for kind := range a.Kinds {
			var uses []api.Frac
			for _, end := range l.ends {
				uses = append(uses, use(g, end, agent, kind))
			}
			l.ranks[agent][kind] = ranked(uses)
		}
	}
	return l
}

// sameEnds reports whether two ends have the same outcome and payments.
func sameEnds(a, b api.Node) bool {
	equal := func(x, y api.Frac) bool { return frac.Cmp(x, y) == 0 }
	return a.Out == b.Out && slices.EqualFunc(a.Pay, b.Pay, equal)
}

// ranked is for each number how many are less.
func ranked(numbers []api.Frac) []int {
	sorted := slices.SortedFunc(slices.Values(numbers), frac.Cmp)
	var out []int
	for _, f := range numbers {
		less, _ := slices.BinarySearchFunc(sorted, f, frac.Cmp)
		out = append(out, less)
	}
	return out
}

// places goes over the places of a cell's profiles.
func (l law) places(c cell) iter.Seq[int] {
	return func(yield func(int) bool) {
		for place, profile := range l.profiles {
			if c.holds(profile) && !yield(place) {
				return
			}
		}
	}
}

// constant is what the rule gives in a cell; false, if that is not the same at all its profiles.
func (l law) constant(c cell) (api.Node, bool) {
	given := -1
	for place := range l.places(c) {
		if given >= 0 && l.first[place] != given {
			return api.Node{}, false
		}
		given = l.first[place]
	}
	return l.ends[given], true
}

// allows reports whether an agent may be asked for some of its kinds: for each kind the worst on its side is at least the best on the other.
func (l law) allows(c cell, agent int, some kinds) bool {
	yes, no := c.split(agent, some)
	for kind := range c[agent].all {
		ranks, other := l.ranks[agent][kind], no
		if !some.has(kind) {
			other = yes
		}
		worst, best := len(ranks), -1
		for place := range l.places(c.with(agent, 1<<kind)) {
			worst = min(worst, ranks[place])
		}
		for place := range l.places(other) {
			best = max(best, ranks[place])
		}
		if worst < best {
			return false
		}
	}
	return true
}

// question is the first allowed split of a cell: who is asked, and for which kinds.
func (l law) question(c cell) (agent int, part kinds, ok bool) {
search:
	for a, possible := range c {
		for half := range possible.halves {
			if l.allows(c, a, half) {
				agent, part, ok = a, half, true
				break search
			}
		}
	}
	return agent, part, ok
}

// isStuck reports whether the rule is not constant in a cell, and no split of it is allowed.
func (l law) isStuck(c cell) bool {
	_, constant := l.constant(c)
	_, _, ok := l.question(c)
	return !constant && !ok
}

// search grows a tree until it is whole, or stuck in a cell.
type search struct {
	planter
	law   law
	stuck cell
}

// grow plants the nodes of a cell, unless it gets stuck.
func (s *search) grow(c cell) bool {
	if end, ok := s.law.constant(c); ok {
		s.end(end.Out, end.Pay)
		return true
	}
	agent, part, ok := s.law.question(c)
	if !ok {
		s.stuck = c
		return false
	}
	yes, no := c.split(agent, part)
	place := s.ask(agent, part)
	if !s.grow(yes) {
		return false
	}
	s.turn(place)
	return s.grow(no)
}
