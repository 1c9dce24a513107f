package vine

import (
	"slices"

	"unbent/api"
	"unbent/frac"
)

// The names of bidders, who are outcomes too, and of their kinds.
var (
	bidderNames = [api.MaxBidders]string{"one", "two", "three"}
	kindNames   = [api.MaxKinds]string{"a", "b", "c", "d"}
)

// rises reports whether each number is greater than the one ahead of it.
func rises(l []api.Frac) bool {
	for i := 1; i < len(l); i++ {
		if frac.Cmp(l[i-1], l[i]) >= 0 {
			return false
		}
	}
	return true
}

func power(base, n int) int {
	out := 1
	for range n {
		out *= base
	}
	return out
}

// saleOf is the game of an auction of one thing.
func saleOf(values []api.Frac, bidders int) api.Game {
	g := api.Game{Outs: []string{"nobody"}, Pay: true, Aim: api.AimTotal, Needs: []api.Need{{Kind: api.NeedPart}}}
	for b := range bidders {
		name := bidderNames[b]
		g.Outs = append(g.Outs, name)
		agent := api.Agent{Name: name}
		for k, value := range values {
			agent.Kinds = append(agent.Kinds, api.Kind{Name: kindNames[k], Weight: one(), Alone: frac.Fix(api.Frac{}), Worth: single(bidders+1, b+1, value)})
		}
		g.Agents = append(g.Agents, agent)
	}
	return g
}

// clock plants the tree of an auction.
type clock struct {
	planter
	values  []api.Frac
	bidders int
}

// stand is how an auction stands: the place of the value to which each bidder said Yes last, at first that of the first value; gone, if it is no more in.
type stand [api.MaxBidders]int

const gone = -1

// opening is how an auction of n bidders begins.
func opening(n int) stand {
	var s stand
	for b := n; b < len(s); b++ {
		s[b] = gone
	}
	return s
}

func isIn(value int) bool { return value != gone }

// winner is the first who is in.
func (s stand) winner() int { return slices.IndexFunc(s[:], isIn) }

// isOver reports whether just one is in.
func (s stand) isOver() bool { return !slices.ContainsFunc(s[s.winner()+1:], isIn) }

// run plants what follows from a turn on: turns come by values, from the second one on, and of each by bidders, from the last to the first.
func (c *clock) run(s stand, turn int) {
	value, bidder := 1+turn/c.bidders, c.bidders-1-turn%c.bidders
	switch {
	case s.isOver() || value == len(c.values):
		b := s.winner()
		c.end(b+1, single(c.bidders, b, c.values[s[b]]))
	case !isIn(s[bidder]):
		c.run(s, turn+1)
	default:
		yes, no := s, s
		yes[bidder], no[bidder] = value, gone
		place := c.ask(bidder, upTo(len(c.values))&^upTo(value))
		c.run(yes, turn+1)
		c.turn(place)
		c.run(no, turn+1)
	}
}
