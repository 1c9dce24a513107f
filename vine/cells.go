package vine

import (
	"slices"

	"unbent/api"
)

// kinds is some kinds of an agent, as a number that has the bit 2^k for each kind k.
type kinds uint

// upTo is the first n kinds.
func upTo(n int) kinds { return 1<<n - 1 }

func (s kinds) has(kind int) bool { return s>>kind&1 == 1 }

// all goes through the kinds, rising.
func (s kinds) all(yield func(kind int) bool) {
	for kind := range api.MaxKinds {
		if s.has(kind) && !yield(kind) {
			return
		}
	}
}

func (s kinds) list() []int { return slices.Collect(s.all) }

// pick is the kinds that a list has; none, if it does not have kinds of these alone, rising, each once.
func (s kinds) pick(list []int) kinds {
	var out kinds
	last := -1
	for _, kind := range list {
		if kind <= last || !s.has(kind) {
			return 0
		}
		out |= 1 << kind
		last = kind
	}
	return out
}

// halves goes through the sets that have the least of the kinds, but not all, by their numbers. All such sets are lesser numbers than that of all kinds.
func (s kinds) halves(yield func(half kinds) bool) {
	least := s & -s
	for half := range s {
		if half&least != 0 && half&^s == 0 && !yield(half) {
			return
		}
	}
}

// cell is for each agent some of its kinds, none of agents that a game does not have. As an array it is copied and compared as a whole.
type cell [api.MaxAgents]kinds

func allKinds(g api.Game) cell {
	var out cell
	for agent, a := range g.Agents {
		out[agent] = upTo(len(a.Kinds))
	}
	return out
}

// cellOf is the cell that lists have; false, if that is no cell of the game.
func cellOf(g api.Game, lists [][]int) (cell, bool) {
	if len(lists) != len(g.Agents) {
		return cell{}, false
	}
	all := allKinds(g)
	var out cell
	for agent, list := range lists {
		if out[agent] = all[agent].pick(list); out[agent] == 0 {
			return cell{}, false
		}
	}
	return out, true
}

func (c cell) lists(agents int) [][]int {
	var out [][]int
	for _, some := range c[:agents] {
		out = append(out, some.list())
	}
	return out
}

// with is the cell with other kinds of an agent.
func (c cell) with(agent int, some kinds) cell {
	c[agent] = some
	return c
}

// split is what lies behind the answers to a question: is an agent's kind one of these?
func (c cell) split(agent int, some kinds) (yes, no cell) {
	return c.with(agent, c[agent]&some), c.with(agent, c[agent]&^some)
}

// holds reports whether a profile is one of the cell.
func (c cell) holds(profile []int) bool {
	for agent, kind := range profile {
		if !c[agent].has(kind) {
			return false
		}
	}
	return true
}
