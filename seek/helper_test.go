package seek_test

import (
	"math/rand"
	"slices"
	"testing"

	"unbent/api"
	"unbent/frac"
	"unbent/rule"
	"unbent/seek"
	"unbent/speech"
)

func game(t *testing.T, text string) api.Game {
	t.Helper()
	g, e, line := speech.Parse(text)
	if e != api.OK {
		t.Fatalf("%q: error %d, line %d", text, e, line)
	}
	return g
}

func law(t *testing.T, g api.Game, text string) api.Rule {
	t.Helper()
	r, e, line := speech.ParseRule(g, text)
	if e != api.OK {
		t.Fatalf("%q: error %d, line %d", text, e, line)
	}
	return r
}

func num(p, q int) api.Frac {
	f, e := frac.Make(p, q)
	if e != api.OK {
		panic("no fraction")
	}
	return f
}

func nums(l ...int) []api.Frac {
	var out []api.Frac
	for _, n := range l {
		out = append(out, num(n, 1))
	}
	return out
}

// wrong is a fraction that is not right: 2/2. Its Fix is 0.
func wrong() api.Frac { return api.Frac{Num: []uint32{2}, Den: []uint32{2}} }

// long is a number of so many words above.
func long(words int) api.Frac {
	num := make([]uint32, words)
	num[0], num[words-1] = 1, 1
	return api.Frac{Num: num, Den: []uint32{1}}
}

// isRightly reports whether f is right, and what is said.
func isRightly(f, said api.Frac) bool { return frac.Right(f) && frac.Cmp(f, said) == 0 }

func areRightly(l, said []api.Frac) bool { return slices.EqualFunc(l, said, isRightly) }

func sameCells(a, b []api.Cell) bool {
	return slices.EqualFunc(a, b, func(c, d api.Cell) bool { return areRightly(c.Lot, d.Lot) && areRightly(c.Pay, d.Pay) })
}

func sameCert(a, b api.Cert) bool {
	return a.Kind == b.Kind && areRightly(a.X, b.X) && areRightly(a.Y, b.Y) && areRightly(a.Ray, b.Ray)
}

func sameTree(a, b api.Tree) bool {
	return a.Kind == b.Kind && areRightly(a.X, b.X) && areRightly(a.Ray, b.Ray) && slices.EqualFunc(a.Cases, b.Cases, func(c, d api.Case) bool {
		return c.Var == d.Var && c.Zero == d.Zero && c.One == d.One && sameCert(c.Cert, d.Cert)
	})
}

func sameAnswer(a, b api.Answer) bool {
	return a.Kind == b.Kind && sameCells(a.Rule.Cells, b.Rule.Cells) && sameCert(a.Cert, b.Cert) && sameTree(a.Tree, b.Tree)
}

func noAnswer(a api.Answer) bool { return sameAnswer(a, api.Answer{}) }

// found is what Find tells, which is to be judged to be right.
func found(t *testing.T, g api.Game) api.Answer {
	t.Helper()
	a, e := seek.Find(g)
	if e != api.OK || !seek.Judge(g, a) {
		t.Fatalf("%s: error %d, %v", speech.Print(g), e, a)
	}
	return a
}

// isGood reports whether a rule is right, truthful, and meets all needs.
func isGood(g api.Game, r api.Rule) bool {
	_, truthful := rule.Truthful(g, r)
	_, meets := rule.Meets(g, r)
	return rule.Right(g, r) == api.OK && truthful && meets
}

// size is how great drawn games are.
type size struct{ profiles, outs, most int }

// drawSmall is a number from -most to most, often a whole one, so that many numbers are equal.
func drawSmall(r *rand.Rand, most int) api.Frac {
	return num(r.Intn(2*most+1)-most, []int{1, 1, 1, 2, 3}[r.Intn(5)])
}

func drawSmalls(r *rand.Rand, n, most int) []api.Frac {
	var out []api.Frac
	for range n {
		out = append(out, drawSmall(r, most))
	}
	return out
}

func drawAgents(r *rand.Rand, outs int, s size) []api.Agent {
	var out []api.Agent
	left := s.profiles
	for a := range 1 + r.Intn(4) {
		agent := api.Agent{Name: string(rune('a' + a))}
		n := 1 + r.Intn(min(4, left))
		left /= n
		for k := range n {
			kind := api.Kind{Name: string(rune('a' + k)), Weight: num(r.Intn(4), 1+r.Intn(2)), Alone: num(r.Intn(4)-2, 1), Worth: drawSmalls(r, outs, s.most)}
			agent.Kinds = append(agent.Kinds, kind)
		}
		out = append(out, agent)
	}
	return out
}

// drawSwap is changes of places by twos.
func drawSwap(r *rand.Rand, outs int) []int {
	out := make([]int, outs)
	for o := range out {
		out[o] = o
	}
	for o := 0; o+1 < outs; o += 2 {
		if r.Intn(2) > 0 {
			out[o], out[o+1] = o+1, o
		}
	}
	return out
}

// drawNeeds is some needs of each kind.
func drawNeeds(r *rand.Rand, agents, outs, often int) []api.Need {
	var out []api.Need
	for _, kind := range []int{api.NeedPart, api.NeedBudget, api.NeedEven, api.NeedBound} {
		if n := (api.Need{Kind: kind}); r.Intn(often) == 0 {
			if kind == api.NeedBound {
				n.Bound = num(r.Intn(5), 2)
			}
			out = append(out, n)
		}
	}
	for range r.Intn(3) {
		n := api.Need{Kind: api.NeedOrder, Agent: r.Intn(agents)}
		for o := range outs {
			if r.Intn(3) == 0 {
				n.Outs = append(n.Outs, o)
			}
		}
		if len(n.Outs) > 0 && r.Intn(often) == 0 {
			out = append(out, n)
		}
	}
	for other := 1; other < agents; other++ {
		if r.Intn(often) == 0 {
			out = append(out, api.Need{Kind: api.NeedEnvy, Agent: r.Intn(other), Other: other, Swap: drawSwap(r, outs)})
		}
	}
	r.Shuffle(len(out), func(i, j int) { out[i], out[j] = out[j], out[i] })
	return out
}

// drawGame is a right game; of needs there are many, if often is small.
func drawGame(r *rand.Rand, s size, often int) api.Game {
	names := []string{"t", "u", "v", "w", "x", "y"}
	outs := 1 + r.Intn(s.outs)
	g := api.Game{Outs: names[:outs], Pay: r.Intn(2) == 0, Lots: r.Intn(2) == 0, Aim: 1 + r.Intn(3), Agents: drawAgents(r, outs, s)}
	g.Needs = drawNeeds(r, len(g.Agents), outs, often)
	if e := speech.Right(g); e != api.OK {
		panic("no right game was drawn")
	}
	return g
}

// sure is the lottery of one outcome.
func sure(outs, one int) []api.Frac {
	out := nums(make([]int, outs)...)
	out[one] = num(1, 1)
	return out
}

// drawCell is a cell that fits.
func drawCell(r *rand.Rand, g api.Game) api.Cell {
	outs := len(g.Outs)
	c := api.Cell{Lot: sure(outs, r.Intn(outs)), Pay: nums(make([]int, len(g.Agents))...)}
	if at := r.Intn(outs); g.Lots && frac.Sign(c.Lot[at]) == 0 {
		part := num(1+r.Intn(3), 4)
		for o := range c.Lot {
			c.Lot[o] = frac.Mul(c.Lot[o], frac.Sub(num(1, 1), part))
		}
		c.Lot[at] = part
	}
	if g.Pay {
		c.Pay = drawSmalls(r, len(g.Agents), 1)
	}
	return c
}

// drawRule is any rule that fits.
func drawRule(r *rand.Rand, g api.Game) api.Rule {
	var out api.Rule
	for range speech.Profiles(g) {
		out.Cells = append(out.Cells, drawCell(r, g))
	}
	return out
}

// drawTruthful is a rule of which nobody gains by a lie: the same cell always, or, what one agent wants most (who pays always the same).
func drawTruthful(r *rand.Rand, g api.Game) api.Rule {
	cell := drawCell(r, g)
	chooser := r.Intn(len(g.Agents) + 2)
	var out api.Rule
	for _, profile := range speech.Profiles(g) {
		c := api.Cell{Lot: slices.Clone(cell.Lot), Pay: slices.Clone(cell.Pay)}
		if chooser < len(g.Agents) {
			c.Lot = sure(len(g.Outs), frac.Most(g.Agents[chooser].Kinds[profile[chooser]].Worth))
		}
		out.Cells = append(out.Cells, c)
	}
	return out
}

// drawGood is a good rule, or one that may be one.
func drawGood(r *rand.Rand, g api.Game) api.Rule {
	out := drawTruthful(r, g)
	for range 10 {
		if isGood(g, out) {
			break
		}
		out = drawTruthful(r, g)
	}
	return out
}
