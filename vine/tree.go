package vine

import (
	"iter"
	"slices"

	"unbent/api"
	"unbent/frac"
	"unbent/speech"
)

// noAgent is the Agent of an end.
const noAgent = -1

func isEnd(n api.Node) bool { return n.Agent == noAgent }

// tree is a right tree of a right game, with the cell of what is possible at each node.
type tree struct {
	game  api.Game
	nodes []api.Node
	cells []cell
}

func newTree(g api.Game, v api.Vine) (tree, api.Errno) {
	if speech.Right(g) != api.OK {
		return tree{}, api.ErrGame
	}
	if len(v.Nodes) < 1 || len(v.Nodes) > api.MaxNodes {
		return tree{}, api.ErrVine
	}
	t := tree{game: g, nodes: v.Nodes, cells: make([]cell, len(v.Nodes))}
	t.cells[0] = allKinds(g)
	for place := range t.nodes {
		if !t.stands(place) {
			return tree{}, api.ErrVine
		}
	}
	return t, api.OK
}

// stands reports whether a node is right, if those ahead of it are. It writes down what is possible where the answers to a question lead; what no answer led to yet has the cell without kinds.
func (t tree) stands(place int) bool {
	node, here := t.nodes[place], t.cells[place]
	switch {
	case here == (cell{}): // no answer leads to it
		return false
	case isEnd(node):
		return t.isRightEnd(node)
	case node.Agent < 0 || node.Agent >= len(t.game.Agents):
		return false
	}
	yes, no := here.split(node.Agent, here[node.Agent].pick(node.Part))
	// A part that has no kind leaves all of the cell to No, one that has all of them to Yes.
	return yes != here && no != here && t.lead(place, node.Yes, yes) && t.lead(place, node.No, no)
}

// lead writes what is possible at a node to which an answer leads; false, if it does not stand behind the question, or another answer leads to it too.
func (t tree) lead(from, to int, possible cell) bool {
	if to <= from || to >= len(t.nodes) || t.cells[to] != (cell{}) {
		return false
	}
	t.cells[to] = possible
	return true
}

func (t tree) isRightEnd(n api.Node) bool {
	isPaid := func(f api.Frac) bool { return frac.Sign(f) != 0 }
	return n.Out >= 0 && n.Out < len(t.game.Outs) && len(n.Pay) == len(t.game.Agents) && (t.game.Pay || !slices.ContainsFunc(n.Pay, isPaid))
}

// answers is where a question leads, if it is answered truly for a kind, and if not.
func (t tree) answers(place, kind int) (truth, other int) {
	node := t.nodes[place]
	if slices.Contains(node.Part, kind) {
		return node.Yes, node.No
	}
	return node.No, node.Yes
}

// path is the nodes from the root to the end that a profile reaches.
func (t tree) path(profile []int) []int {
	out := []int{0}
	for at := 0; !isEnd(t.nodes[at]); {
		at, _ = t.answers(at, profile[t.nodes[at].Agent])
		out = append(out, at)
	}
	return out
}

// below goes over the ends below a node.
func (t tree) below(place int) iter.Seq[int] {
	return func(yield func(int) bool) { t.descend(place, yield) }
}

// descend hands over the ends below a node until one is not wanted.
func (t tree) descend(place int, yield func(int) bool) bool {
	node := t.nodes[place]
	if isEnd(node) {
		return yield(place)
	}
	return t.descend(node.Yes, yield) && t.descend(node.No, yield)
}

// doubt compares the least that the true answer may lead to, for a kind, with the greatest that the other one may. Answering truly further on leads to just those ends at which the kind is still possible.
func (t tree) doubt(place, kind int) (api.Doubt, bool) {
	agent := t.nodes[place].Agent
	truth, other := t.answers(place, kind)
	var honest, feigned []api.Frac
	for end := range t.below(truth) {
		if t.cells[end][agent].has(kind) {
			honest = append(honest, use(t.game, t.nodes[end], agent, kind))
		}
	}
	for end := range t.below(other) {
		feigned = append(feigned, use(t.game, t.nodes[end], agent, kind))
	}
	worst, best := honest[frac.Least(honest)], feigned[frac.Most(feigned)]
	return api.Doubt{Node: place, Kind: kind, Best: best, Worst: worst}, frac.Cmp(worst, best) < 0
}

// use is what an end is worth to an agent of a kind, less what it pays there.
func use(g api.Game, end api.Node, agent, kind int) api.Frac {
	return frac.Sub(g.Agents[agent].Kinds[kind].Worth[end.Out], end.Pay[agent])
}
