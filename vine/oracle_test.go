package vine_test

import (
	"math/big"
	"slices"

	"unbent/api"
	"unbent/speech"
)

// oracle reads the chapter once more: in numbers of math/big, and by lists of kinds and of profiles.
type oracle struct {
	g api.Game
	v api.Vine
}

// isTree reports whether each node but the root is Yes or No of just one question, which stands ahead.
func (o oracle) isTree() bool {
	leads := map[int][]int{}
	for at, n := range o.v.Nodes {
		if n.Agent != -1 {
			leads[n.Yes], leads[n.No] = append(leads[n.Yes], at), append(leads[n.No], at)
		}
	}
	for to, from := range leads {
		if len(from) != 1 || from[0] >= to || to >= len(o.v.Nodes) {
			return false
		}
	}
	return len(leads) == len(o.v.Nodes)-1
}

// isRightFrom reports whether a node and all below it are right, if these kinds are possible.
func (o oracle) isRightFrom(at int, possible [][]int) bool {
	n := o.v.Nodes[at]
	if n.Agent == -1 {
		for _, f := range n.Pay {
			if !o.g.Pay && value(f).Sign() != 0 {
				return false
			}
		}
		return slices.Contains(upTo(len(o.g.Outs)), n.Out) && len(n.Pay) == len(o.g.Agents)
	}
	if n.Agent < 0 || n.Agent >= len(o.g.Agents) {
		return false
	}
	rest := without(possible[n.Agent], n.Part)
	both := slices.Concat(n.Part, rest)
	slices.Sort(both)
	if len(n.Part) == 0 || len(rest) == 0 || !slices.IsSorted(n.Part) || !slices.Equal(both, possible[n.Agent]) {
		return false
	}
	return o.isRightFrom(n.Yes, with(possible, n.Agent, n.Part)) && o.isRightFrom(n.No, with(possible, n.Agent, rest))
}

// isRight reports whether a tree of a right game is right.
func (o oracle) isRight() bool {
	n := len(o.v.Nodes)
	return n >= 1 && n <= 200 && o.isTree() && o.isRightFrom(0, allOf(o.g))
}

// use is what an outcome is worth to an agent of a kind, less its payment.
func (o oracle) use(out int, pay []api.Frac, agent, kind int) *big.Rat {
	worth := value(o.g.Agents[agent].Kinds[kind].Worth[out])
	return worth.Sub(worth, value(pay[agent]))
}

// uses is the uses of all ends below a node, if an agent answers truly for a kind; of all if it may say anything.
func (o oracle) uses(at, agent, kind int, truly bool) []*big.Rat {
	n := o.v.Nodes[at]
	switch {
	case n.Agent == -1:
		return []*big.Rat{o.use(n.Out, n.Pay, agent, kind)}
	case n.Agent == agent && truly && slices.Contains(n.Part, kind):
		return o.uses(n.Yes, agent, kind, truly)
	case n.Agent == agent && truly:
		return o.uses(n.No, agent, kind, truly)
	}
	return append(o.uses(n.Yes, agent, kind, truly), o.uses(n.No, agent, kind, truly)...)
}

func least(l []*big.Rat) *big.Rat {
	return slices.MinFunc(l, func(a, b *big.Rat) int { return a.Cmp(b) })
}

func greatest(l []*big.Rat) *big.Rat {
	return slices.MaxFunc(l, func(a, b *big.Rat) int { return a.Cmp(b) })
}

// possible is the kinds of an agent that some profile has that reaches a node.
func (o oracle) possible(at, agent int) []int {
	var out []int
	for _, profile := range speech.Profiles(o.g) {
		if slices.Contains(o.path(profile), at) {
			out = append(out, profile[agent])
		}
	}
	slices.Sort(out)
	return slices.Compact(out)
}

func (o oracle) path(profile []int) []int {
	out := []int{0}
	for n := o.v.Nodes[0]; n.Agent >= 0; n = o.v.Nodes[out[len(out)-1]] {
		if slices.Contains(n.Part, profile[n.Agent]) {
			out = append(out, n.Yes)
		} else {
			out = append(out, n.No)
		}
	}
	return out
}

// doubt is a doubt in numbers of math/big.
type doubt struct {
	node, kind  int
	best, worst *big.Rat
}

// doubts is all doubts of a right tree, in order.
func (o oracle) doubts() []doubt {
	var out []doubt
	for at, n := range o.v.Nodes {
		if n.Agent == -1 {
			continue
		}
		for _, kind := range o.possible(at, n.Agent) {
			truth, other := n.No, n.Yes
			if slices.Contains(n.Part, kind) {
				truth, other = n.Yes, n.No
			}
			worst, best := least(o.uses(truth, n.Agent, kind, true)), greatest(o.uses(other, n.Agent, kind, false))
			if worst.Cmp(best) < 0 {
				out = append(out, doubt{at, kind, best, worst})
			}
		}
	}
	return out
}

// grown reads once more how trees are grown, for a plain rule.
type grown struct {
	oracle
	r     api.Rule
	stuck [][]int
}

// outOf is the outcome of a plain cell.
func outOf(c api.Cell) int {
	return slices.IndexFunc(c.Lot, func(f api.Frac) bool { return value(f).Cmp(big.NewRat(1, 1)) == 0 })
}

// cells is what the rule gives at the profiles of a cell.
func (o *grown) cells(cell [][]int) []api.Cell {
	var out []api.Cell
	for place, profile := range speech.Profiles(o.g) {
		isIn := true
		for a, kind := range profile {
			isIn = isIn && slices.Contains(cell[a], kind)
		}
		if isIn {
			out = append(out, o.r.Cells[place])
		}
	}
	return out
}

func (o *grown) isConstant(cell [][]int) bool {
	all := o.cells(cell)
	for _, c := range all {
		for a, f := range c.Pay {
			if value(f).Cmp(value(all[0].Pay[a])) != 0 {
				return false
			}
		}
		if outOf(c) != outOf(all[0]) {
			return false
		}
	}
	return true
}

// usesIn is the uses of all that the rule gives in a cell.
func (o *grown) usesIn(cell [][]int, agent, kind int) []*big.Rat {
	var out []*big.Rat
	for _, c := range o.cells(cell) {
		out = append(out, o.use(outOf(c), c.Pay, agent, kind))
	}
	return out
}

func (o *grown) isAllowed(cell [][]int, agent int, part []int) bool {
	rest := without(cell[agent], part)
	for _, sides := range [][2][]int{{part, rest}, {rest, part}} {
		for _, kind := range sides[0] {
			worst := least(o.usesIn(with(cell, agent, []int{kind}), agent, kind))
			if worst.Cmp(greatest(o.usesIn(with(cell, agent, sides[1]), agent, kind))) < 0 {
				return false
			}
		}
	}
	return true
}

// subsets is all sets of a rising list, in the order of numbers that have the bit 2^k for each k in them.
func subsets(list []int) [][]int {
	out := [][]int{nil}
	for _, kind := range list {
		for _, s := range slices.Clone(out) {
			out = append(out, append(slices.Clone(s), kind))
		}
	}
	return out
}

// split is the first allowed split.
func (o *grown) split(cell [][]int) (int, []int, bool) {
	for agent, kinds := range cell {
		for _, part := range subsets(kinds) {
			if len(part) > 0 && len(part) < len(kinds) && part[0] == kinds[0] && o.isAllowed(cell, agent, part) {
				return agent, part, true
			}
		}
	}
	return 0, nil, false
}

// grow adds the nodes of a cell; it ends where it is stuck.
func (o *grown) grow(cell [][]int) bool {
	if o.isConstant(cell) {
		c := o.cells(cell)[0]
		o.v.Nodes = append(o.v.Nodes, api.Node{Agent: -1, Out: outOf(c), Pay: c.Pay})
		return true
	}
	agent, part, ok := o.split(cell)
	if !ok {
		o.stuck = cell
		return false
	}
	at := len(o.v.Nodes)
	o.v.Nodes = append(o.v.Nodes, ask(agent, part, at+1, 0))
	if !o.grow(with(cell, agent, part)) {
		return false
	}
	o.v.Nodes[at].No = len(o.v.Nodes)
	return o.grow(with(cell, agent, without(cell[agent], part)))
}

// isStuck reports whether a cell of the game is neither constant, nor has any allowed split, whichever side is asked for.
func (o *grown) isStuck(cell [][]int) bool {
	for agent, kinds := range cell {
		for _, part := range subsets(kinds) {
			if len(part) > 0 && len(part) < len(kinds) && o.isAllowed(cell, agent, part) {
				return false
			}
		}
	}
	return !o.isConstant(cell)
}
