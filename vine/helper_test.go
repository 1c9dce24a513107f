package vine_test

import (
	"math/big"
	"math/rand"
	"slices"
	"testing"

	"unbent/api"
	"unbent/frac"
	"unbent/speech"
	"unbent/vine"
)

// A game of two agents, without payments; of ann's three kinds and bob's two each wants something else.
const meal = `game total
outs soup fish
agent ann
kind a 1 0 0 1
kind b 1 0 1 0
kind c 1 0 2 2
agent bob
kind a 1 0 0 1
kind b 1 0 1 0
`

func game(t *testing.T, text string) api.Game {
	t.Helper()
	g, e, line := speech.Parse(text)
	if e != api.OK {
		t.Fatalf("%q: error %d, line %d", text, e, line)
	}
	return g
}

func num(p, q int) api.Frac {
	f, e := frac.Make(p, q)
	if e != api.OK {
		panic("no fraction")
	}
	return f
}

func nums(l ...int) []api.Frac {
	var out []api.Frac
	for _, n := range l {
		out = append(out, num(n, 1))
	}
	return out
}

// wrong is a fraction that is not right: 2/2. Its Fix is 0.
func wrong() api.Frac { return api.Frac{Num: []uint32{2}, Den: []uint32{2}} }

// long is a number of so many words above.
func long(words int) api.Frac {
	num := make([]uint32, words)
	num[0], num[words-1] = 1, 1
	return api.Frac{Num: num, Den: []uint32{1}}
}

// inverse is one by a number.
func inverse(f api.Frac) api.Frac {
	out, _ := frac.Div(num(1, 1), f)
	return out
}

// isRightly reports whether f is right, and what is said.
func isRightly(f, said api.Frac) bool { return frac.Right(f) && frac.Cmp(f, said) == 0 }

func areRightly(l, said []api.Frac) bool { return slices.EqualFunc(l, said, isRightly) }

// isZeroFrac reports whether f is the zero value, which is no right fraction.
func isZeroFrac(f api.Frac) bool { return !f.Neg && len(f.Num) == 0 && len(f.Den) == 0 }

// value is the number of a fraction in numbers of math/big, in which the tests read the chapter once more: of one that is not right it is 0.
func value(f api.Frac) *big.Rat {
	if !frac.Right(f) {
		return new(big.Rat)
	}
	out := new(big.Rat).SetFrac(whole(f.Num), whole(f.Den))
	if f.Neg {
		out.Neg(out)
	}
	return out
}

func whole(words []uint32) *big.Int {
	out := new(big.Int)
	for i := len(words) - 1; i >= 0; i-- {
		out.Add(out.Lsh(out, 32), big.NewInt(int64(words[i])))
	}
	return out
}

// is reports whether f is right and just x.
func is(f api.Frac, x *big.Rat) bool { return frac.Right(f) && value(f).Cmp(x) == 0 }

func ask(agent int, part []int, yes, no int) api.Node {
	return api.Node{Agent: agent, Part: part, Yes: yes, No: no}
}

func end(out int, pay ...int) api.Node { return api.Node{Agent: -1, Out: out, Pay: nums(pay...)} }

func vineOf(nodes ...api.Node) api.Vine { return api.Vine{Nodes: nodes} }

// copiedVine is a tree in memory of its own.
func copiedVine(v api.Vine) api.Vine {
	var out api.Vine
	for _, n := range v.Nodes {
		n.Part, n.Pay = slices.Clone(n.Part), slices.Clone(n.Pay)
		out.Nodes = append(out.Nodes, n)
	}
	return out
}

func sameNode(a, b api.Node) bool {
	return a.Agent == b.Agent && slices.Equal(a.Part, b.Part) && a.Yes == b.Yes && a.No == b.No && a.Out == b.Out && areRightly(a.Pay, b.Pay)
}

func sameVine(a, b api.Vine) bool { return slices.EqualFunc(a.Nodes, b.Nodes, sameNode) }

func sameCell(a, b api.Cell) bool { return areRightly(a.Lot, b.Lot) && areRightly(a.Pay, b.Pay) }

func sameRule(a, b api.Rule) bool { return slices.EqualFunc(a.Cells, b.Cells, sameCell) }

func sameLists(a, b [][]int) bool {
	return slices.EqualFunc(a, b, func(x, y []int) bool { return slices.Equal(x, y) })
}

// ruleOf is the rule of a tree that is right.
func ruleOf(t *testing.T, g api.Game, v api.Vine) api.Rule {
	t.Helper()
	r, e := vine.RuleOf(g, v)
	if e != api.OK {
		t.Fatal("RuleOf", e, v)
	}
	return r
}

// clock is a clock's game and tree.
func clock(t *testing.T, values []api.Frac, n int) (api.Game, api.Vine) {
	t.Helper()
	g, v, e := vine.Clock(values, n)
	if e != api.OK {
		t.Fatal("Clock", e)
	}
	return g, v
}

// upTo is the numbers from 0 to n - 1.
func upTo(n int) []int {
	var out []int
	for i := range n {
		out = append(out, i)
	}
	return out
}

// allOf is the cell of all kinds.
func allOf(g api.Game) [][]int {
	var out [][]int
	for _, a := range g.Agents {
		out = append(out, upTo(len(a.Kinds)))
	}
	return out
}

// with is lists with another one at a place.
func with[T any](lists []T, at int, other T) []T {
	out := slices.Clone(lists)
	out[at] = other
	return out
}

// without is a list without what another one has.
func without(list, other []int) []int {
	return slices.DeleteFunc(slices.Clone(list), func(n int) bool { return slices.Contains(other, n) })
}

// sorts is how many kinds each agent may have.
var sorts = [][]int{{1}, {2}, {3}, {4}, {2, 2}, {3, 2}, {2, 3}, {3, 3}, {4, 2}, {2, 4}, {4, 4}, {1, 3}, {2, 2, 2}, {2, 1, 4}, {3, 2, 2}, {2, 2, 2, 2}, {1, 4, 1, 3}}

// drawGame is a right game of agents of so many kinds, of small numbers, so that equal ones are no rare things.
func drawGame(r *rand.Rand, kinds []int) api.Game {
	outs := 1 + r.Intn(4)
	g := api.Game{Outs: []string{"u", "v", "w", "x"}[:outs], Pay: r.Intn(2) == 0, Lots: r.Intn(4) == 0, Aim: 1 + r.Intn(3)}
	for a, n := range kinds {
		agent := api.Agent{Name: string(rune('a' + a))}
		for k := range n {
			kind := api.Kind{Name: string(rune('a' + k)), Weight: num(r.Intn(3), 2), Alone: num(r.Intn(3)-1, 1)}
			for range outs {
				kind.Worth = append(kind.Worth, num(r.Intn(4)-1, 1+r.Intn(2)))
			}
			agent.Kinds = append(agent.Kinds, kind)
		}
		g.Agents = append(g.Agents, agent)
	}
	if speech.Right(g) != api.OK {
		panic("no right game was drawn")
	}
	return g
}

func drawSort(r *rand.Rand) []int { return sorts[r.Intn(len(sorts))] }

// drawEnd is an end that fits a game; often one of few.
func drawEnd(r *rand.Rand, g api.Game) api.Node {
	n := end(r.Intn(len(g.Outs)), make([]int, len(g.Agents))...)
	for a := range n.Pay {
		if g.Pay && r.Intn(3) == 0 {
			n.Pay[a] = num(r.Intn(5)-2, 2)
		}
	}
	return n
}

// drawPart is some of a list, neither none nor all.
func drawPart(r *rand.Rand, list []int) []int {
	part := slices.Clone(list)
	for len(part) == 0 || len(part) == len(list) {
		part = slices.DeleteFunc(slices.Clone(list), func(int) bool { return r.Intn(2) == 0 })
	}
	return part
}

// drawVine is any right tree: what stands open is taken up in any order, so that of two answers any may come first.
func drawVine(r *rand.Rand, g api.Game) api.Vine {
	cells, open := [][][]int{allOf(g)}, []int{0}
	v := api.Vine{Nodes: make([]api.Node, 1)}
	for len(open) > 0 {
		at := open[0]
		open = open[1:]
		agent := r.Intn(len(g.Agents))
		possible := cells[at][agent]
		if len(possible) < 2 || r.Intn(5) == 0 {
			v.Nodes[at] = drawEnd(r, g)
			continue
		}
		part, n := drawPart(r, possible), len(v.Nodes)
		yes, no := with(cells[at], agent, part), with(cells[at], agent, without(possible, part))
		if v.Nodes[at] = ask(agent, part, n, n+1); r.Intn(2) == 0 {
			v.Nodes[at], yes, no = ask(agent, part, n+1, n), no, yes
		}
		v.Nodes = append(v.Nodes, api.Node{}, api.Node{})
		cells, open = append(cells, yes, no), append(open, n, n+1)
		r.Shuffle(len(open), func(i, j int) { open[i], open[j] = open[j], open[i] })
	}
	return v
}

// drawPlain is a plain rule: any one; or that of a tree; or one of one agent's kinds alone; or one of few cells.
func drawPlain(r *rand.Rand, g api.Game) api.Rule {
	tree := drawVine(r, g)
	some := []api.Node{drawEnd(r, g), drawEnd(r, g)}
	chooser, way := r.Intn(len(g.Agents)), r.Intn(4)
	var out api.Rule
	for _, profile := range speech.Profiles(g) {
		n := drawEnd(r, g)
		switch way {
		case 1:
			n = tree.Nodes[endAt(tree, profile)]
		case 2:
			n = end(frac.Most(g.Agents[chooser].Kinds[profile[chooser]].Worth), make([]int, len(g.Agents))...)
		case 3:
			n = some[r.Intn(2)]
		}
		lot := make([]int, len(g.Outs))
		lot[n.Out] = 1
		out.Cells = append(out.Cells, api.Cell{Lot: nums(lot...), Pay: slices.Clone(n.Pay)})
	}
	return out
}

// endAt is the end that a profile reaches.
func endAt(v api.Vine, profile []int) int {
	at := 0
	for v.Nodes[at].Agent >= 0 {
		n := v.Nodes[at]
		at = n.No
		if slices.Contains(n.Part, profile[n.Agent]) {
			at = n.Yes
		}
	}
	return at
}
