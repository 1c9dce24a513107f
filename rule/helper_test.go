package rule_test

import (
	"math/rand"
	"slices"
	"testing"

	"unbent/api"
	"unbent/frac"
	"unbent/speech"
)

// The game of example 1 of the chapter.
const sale = `game pay total
outs none ann bob
agent ann
kind low 1 0 0 1 0
kind high 1 0 0 3 0
agent bob
kind mid 1 0 0 0 2
part
budget
order ann ann
`

func game(t *testing.T, text string) api.Game {
	t.Helper()
	g, e, line := speech.Parse(text)
	if e != api.OK {
		t.Fatalf("%q: error %d, line %d", text, e, line)
	}
	return g
}

func law(t *testing.T, g api.Game, text string) api.Rule {
	t.Helper()
	r, e, line := speech.ParseRule(g, text)
	if e != api.OK {
		t.Fatalf("%q: error %d, line %d", text, e, line)
	}
	return r
}

func num(p, q int) api.Frac {
	f, e := frac.Make(p, q)
	if e != api.OK {
		panic("no fraction")
	}
	return f
}

func nums(l ...int) []api.Frac {
	var out []api.Frac
	for _, n := range l {
		out = append(out, num(n, 1))
	}
	return out
}

// wrong is a fraction that is not right: 2/2. Its Fix is 0.
func wrong() api.Frac { return api.Frac{Num: []uint32{2}, Den: []uint32{2}} }

// isRightly reports whether f is right, and what is said.
func isRightly(f, said api.Frac) bool { return frac.Right(f) && frac.Cmp(f, said) == 0 }

// isZeroFrac reports whether f is the zero value, which is no right fraction.
func isZeroFrac(f api.Frac) bool { return !f.Neg && len(f.Num) == 0 && len(f.Den) == 0 }

func sameLie(a, b api.Lie) bool {
	return a.Agent == b.Agent && a.Kind == b.Kind && a.Told == b.Told && slices.Equal(a.Profile, b.Profile) && isRightly(a.Gain, b.Gain)
}

func noLie(agent, kind int) api.Lie {
	return api.Lie{Agent: agent, Kind: kind, Told: -1, Gain: num(0, 1)}
}

func sameCells(a, b []api.Cell) bool {
	numbers := func(x, y []api.Frac) bool { return slices.EqualFunc(x, y, isRightly) }
	return slices.EqualFunc(a, b, func(c, d api.Cell) bool { return numbers(c.Lot, d.Lot) && numbers(c.Pay, d.Pay) })
}

// drawSmall is a number from -most to most, often a whole one, so that many numbers are equal.
func drawSmall(r *rand.Rand, most int) api.Frac {
	return num(r.Intn(2*most+1)-most, []int{1, 1, 1, 2, 3}[r.Intn(5)])
}

func drawSmalls(r *rand.Rand, n, most int) []api.Frac {
	var out []api.Frac
	for range n {
		out = append(out, drawSmall(r, most))
	}
	return out
}

// drawAgents is some agents of few kinds, all of whose numbers are small.
func drawAgents(r *rand.Rand, outs int) []api.Agent {
	var out []api.Agent
	left := 16
	for a := range 1 + r.Intn(4) {
		agent := api.Agent{Name: string(rune('a' + a))}
		n := 1 + r.Intn(min(4, left))
		left /= n
		for k := range n {
			kind := api.Kind{Name: string(rune('a' + k)), Weight: num(r.Intn(3), 1+r.Intn(2)), Alone: drawSmall(r, 1), Worth: drawSmalls(r, outs, 2)}
			agent.Kinds = append(agent.Kinds, kind)
		}
		out = append(out, agent)
	}
	return out
}

// drawSwap is changes of places by twos.
func drawSwap(r *rand.Rand, outs int) []int {
	out := make([]int, outs)
	for o := range out {
		out[o] = o
	}
	for o := 0; o+1 < outs; o += 2 {
		if r.Intn(3) > 0 {
			out[o], out[o+1] = o+1, o
		}
	}
	return out
}

// drawNeeds is some needs of each kind, those of one place once at most.
func drawNeeds(r *rand.Rand, agents, outs int) []api.Need {
	var out []api.Need
	for _, kind := range []int{api.NeedPart, api.NeedBudget, api.NeedEven, api.NeedBound} {
		if n := (api.Need{Kind: kind}); r.Intn(2) == 0 {
			if kind == api.NeedBound {
				n.Bound = num(r.Intn(5), 2)
			}
			out = append(out, n)
		}
	}
	for range r.Intn(3) {
		out = append(out, api.Need{Kind: api.NeedOrder, Agent: r.Intn(agents), Outs: []int{r.Intn(outs)}})
	}
	for other := 1; other < agents; other++ {
		if r.Intn(2) == 0 {
			out = append(out, api.Need{Kind: api.NeedEnvy, Agent: r.Intn(other), Other: other, Swap: drawSwap(r, outs)})
		}
	}
	r.Shuffle(len(out), func(i, j int) { out[i], out[j] = out[j], out[i] })
	return out
}

// drawGame is a right game of small numbers, so that lies that gain nothing and needs that are just met are no rare things.
func drawGame(r *rand.Rand) api.Game {
	names := []string{"t", "u", "v", "w", "x", "y"}
	outs := 1 + r.Intn(6)
	g := api.Game{Outs: names[:outs], Pay: r.Intn(2) == 0, Lots: r.Intn(2) == 0, Aim: 1 + r.Intn(3), Agents: drawAgents(r, outs)}
	g.Needs = drawNeeds(r, len(g.Agents), outs)
	if e := speech.Right(g); e != api.OK {
		panic("no right game was drawn")
	}
	return g
}

// sure is the lottery of one outcome.
func sure(outs, one int) []api.Frac {
	out := nums(make([]int, outs)...)
	out[one] = num(1, 1)
	return out
}

// drawCell is a cell that fits.
func drawCell(r *rand.Rand, g api.Game) api.Cell {
	outs := len(g.Outs)
	c := api.Cell{Lot: sure(outs, r.Intn(outs)), Pay: nums(make([]int, len(g.Agents))...)}
	if at := r.Intn(outs); g.Lots && frac.Sign(c.Lot[at]) == 0 {
		part := num(1+r.Intn(3), 4)
		for o := range c.Lot {
			c.Lot[o] = frac.Mul(c.Lot[o], frac.Sub(num(1, 1), part))
		}
		c.Lot[at] = part
	}
	if g.Pay {
		c.Pay = drawSmalls(r, len(g.Agents), 1)
	}
	return c
}

// drawRule is any rule that fits.
func drawRule(r *rand.Rand, g api.Game) api.Rule {
	var out api.Rule
	for range speech.Profiles(g) {
		out.Cells = append(out.Cells, drawCell(r, g))
	}
	return out
}

// drawTruthful is a rule of which nobody gains by a lie: the same cell always, or the choice of one agent (who pays always the same), or, in games of Pay, what all agents want most, where each is paid what the others have, and something that hangs on the others alone.
func drawTruthful(r *rand.Rand, g api.Game) api.Rule {
	cell := drawCell(r, g)
	chooser := r.Intn(len(g.Agents))
	way := r.Intn(3)
	dues := map[string]api.Frac{}
	due := func(agent int, profile []int) api.Frac {
		others := string(rune(agent))
		for a, kind := range profile {
			if a != agent {
				others += string(rune(kind))
			}
		}
		if _, ok := dues[others]; !ok {
			dues[others] = drawSmall(r, 2)
		}
		return dues[others]
	}
	var out api.Rule
	for _, profile := range speech.Profiles(g) {
		c := api.Cell{Lot: slices.Clone(cell.Lot), Pay: slices.Clone(cell.Pay)}
		if way == 1 {
			worth := g.Agents[chooser].Kinds[profile[chooser]].Worth
			c.Lot = sure(len(g.Outs), frac.Most(worth))
		}
		if way == 2 && g.Pay {
			at := frac.Most(sums(g, profile, -1))
			c.Lot = sure(len(g.Outs), at)
			for a := range c.Pay {
				c.Pay[a] = frac.Sub(due(a, profile), sums(g, profile, a)[at])
			}
		}
		out.Cells = append(out.Cells, c)
	}
	return out
}

// sums is what each outcome is worth to all agents but one.
func sums(g api.Game, profile []int, but int) []api.Frac {
	out := nums(make([]int, len(g.Outs))...)
	for a, kind := range profile {
		for o, f := range g.Agents[a].Kinds[kind].Worth {
			if a != but {
				out[o] = frac.Add(out[o], f)
			}
		}
	}
	return out
}

// drawLog is a log of a game.
func drawLog(r *rand.Rand, g api.Game, most int) []api.Seen {
	all := speech.Profiles(g)
	var out []api.Seen
	for range r.Intn(most + 1) {
		out = append(out, api.Seen{Profile: all[r.Intn(len(all))], Count: r.Intn(4)})
	}
	return out
}
