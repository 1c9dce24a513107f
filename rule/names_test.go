package rule_test

import (
	"math/rand"
	"slices"
	"testing"

	"unbent/api"
	"unbent/frac"
	"unbent/rule"
	"unbent/speech"
)

// reorder is how agents, outcomes, and the kinds of each agent stand anew: at each place, where that stood which stands there now.
type reorder struct {
	agents, outs []int
	kinds        [][]int // of the agents as they stand now
}

func drawReorder(r *rand.Rand, g api.Game) reorder {
	out := reorder{agents: r.Perm(len(g.Agents)), outs: r.Perm(len(g.Outs))}
	for _, a := range out.agents {
		out.kinds = append(out.kinds, r.Perm(len(g.Agents[a].Kinds)))
	}
	return out
}

func pick[T any](l []T, places []int) []T {
	var out []T
	for _, p := range places {
		out = append(out, l[p])
	}
	return out
}

// game is a game without needs in the new order, under names that are new too.
func (o reorder) game(g api.Game) api.Game {
	fresh := func(n int) string { return "z" + string(rune('a'+n)) }
	out := g
	out.Needs, out.Outs, out.Agents = nil, nil, nil
	for i := range o.outs {
		out.Outs = append(out.Outs, fresh(i))
	}
	for i, a := range o.agents {
		agent := api.Agent{Name: fresh(i)}
		for j, k := range o.kinds[i] {
			kind := g.Agents[a].Kinds[k]
			kind.Name, kind.Worth = fresh(j), pick(kind.Worth, o.outs)
			agent.Kinds = append(agent.Kinds, kind)
		}
		out.Agents = append(out.Agents, agent)
	}
	return out
}

// profile is what a profile in the new order was in the old one.
func (o reorder) profile(profile []int) []int {
	out := make([]int, len(profile))
	for i, a := range o.agents {
		out[a] = o.kinds[i][profile[i]]
	}
	return out
}

func (o reorder) rule(old oracle, g api.Game) api.Rule {
	var out api.Rule
	for _, profile := range speech.Profiles(g) {
		c := old.cell(o.profile(profile))
		out.Cells = append(out.Cells, api.Cell{Lot: pick(c.Lot, o.outs), Pay: pick(c.Pay, o.agents)})
	}
	return out
}

// P4.5: the truth, gains and aims do not hang on names and order.
func TestNames(t *testing.T) {
	r := rand.New(rand.NewSource(49))
	for i := range 400 {
		g := drawGame(r)
		law := drawRule(r, g)
		if i%2 == 1 {
			law = drawTruthful(r, g)
		}
		o := drawReorder(r, g)
		h := o.game(g)
		other := o.rule(oracle{g, law}, h)
		_, one := rule.Truthful(g, law)
		_, two := rule.Truthful(h, other)
		if one != two || rule.Right(h, other) != api.OK {
			t.Fatal("Truthful", one, two)
		}
		if frac.Cmp(rule.Aim(g, law), rule.Aim(h, other)) != 0 {
			t.Fatal("Aim", frac.Print(rule.Aim(g, law)), frac.Print(rule.Aim(h, other)))
		}
		gains := rule.Gains(g, law)
		for i, lie := range rule.Gains(h, other) {
			if !isRightly(lie.Gain, gains[o.agents[i]].Gain) {
				t.Fatal("Gains", lie, gains[o.agents[i]])
			}
		}
	}
}

// Names alone change nothing at all that is told.
func TestNamesAlone(t *testing.T) {
	r := rand.New(rand.NewSource(50))
	for range 200 {
		g := drawGame(r)
		g.Needs = nil
		law := drawRule(r, g)
		o := reorder{agents: inOrder(len(g.Agents)), outs: inOrder(len(g.Outs))}
		for _, a := range g.Agents {
			o.kinds = append(o.kinds, inOrder(len(a.Kinds)))
		}
		h := o.game(g)
		one, truth := rule.Truthful(g, law)
		two, still := rule.Truthful(h, law)
		if truth != still || !sameLie(one, two) || !slices.EqualFunc(rule.Gains(g, law), rule.Gains(h, law), sameLie) {
			t.Fatal("lies", one, two)
		}
		joint, ok := rule.Group(g, law)
		other, too := rule.Group(h, law)
		if ok != too || !sameJoint(joint, other) || !isRightly(rule.Aim(h, law), rule.Aim(g, law)) {
			t.Fatal("Group", joint, other)
		}
	}
}

func inOrder(n int) []int {
	var out []int
	for i := range n {
		out = append(out, i)
	}
	return out
}
