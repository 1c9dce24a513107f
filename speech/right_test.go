package speech_test

import (
	"math/rand"
	"strings"
	"testing"

	"unbent/api"
	"unbent/speech"
)

// kinds is so many kinds of a game with that many outcomes.
func kinds(n, outs int) []api.Kind {
	var out []api.Kind
	for i := range n {
		out = append(out, api.Kind{Name: string(rune('a' + i)), Weight: num(1, 1), Worth: nums(make([]int, outs)...)})
	}
	return out
}

// changed is a game made of the one of text, whose parts may be changed at will.
func changed(t *testing.T, change func(g *api.Game)) api.Game {
	t.Helper()
	g := game(t, every)
	change(&g)
	return g
}

// P3.1: what makes a game too large, or not right.
func TestRight(t *testing.T) {
	for i, c := range []struct {
		change func(g *api.Game)
		e      api.Errno
	}{
		{func(g *api.Game) {}, api.OK},
		{func(g *api.Game) { g.Needs = nil }, api.OK},
		{func(g *api.Game) { *g = api.Game{} }, api.ErrGame},

		{func(g *api.Game) { g.Agents = nil }, api.ErrGame},
		{func(g *api.Game) { g.Agents = make([]api.Agent, 4) }, api.ErrGame},
		{func(g *api.Game) { g.Agents = make([]api.Agent, 5) }, api.ErrSize},
		{func(g *api.Game) { g.Agents[1].Kinds = nil; g.Needs = nil }, api.ErrGame},
		{func(g *api.Game) { g.Agents[1].Kinds = kinds(4, 4) }, api.OK},
		{func(g *api.Game) { g.Agents[1].Kinds = kinds(5, 4) }, api.ErrSize},
		{func(g *api.Game) { g.Agents = append(g.Agents, api.Agent{Name: "c", Kinds: kinds(2, 4)}) }, api.OK},
		{func(g *api.Game) { g.Agents = append(g.Agents, api.Agent{Name: "c", Kinds: kinds(3, 4)}) }, api.ErrSize},
		{func(g *api.Game) { g.Agents = append(g.Agents, api.Agent{Name: "c"}) }, api.ErrGame},
		{func(g *api.Game) {
			g.Agents = []api.Agent{{Kinds: kinds(4, 4)}, {Kinds: kinds(4, 4)}, {Kinds: kinds(4, 4)}, {}}
		}, api.ErrGame},
		{func(g *api.Game) { g.Agents = []api.Agent{{Kinds: kinds(5, 4)}, {}} }, api.ErrSize},
		{func(g *api.Game) { g.Outs = nil }, api.ErrGame},
		{func(g *api.Game) { g.Outs = make([]string, 6) }, api.ErrGame},
		{func(g *api.Game) { g.Outs = make([]string, 7) }, api.ErrSize},
		{func(g *api.Game) { g.Needs = make([]api.Need, 12) }, api.ErrGame},
		{func(g *api.Game) { g.Needs = make([]api.Need, 13) }, api.ErrSize},
		{func(g *api.Game) { g.Needs, g.Aim, g.Agents[0].Name = make([]api.Need, 13), 9, "" }, api.ErrSize},

		{func(g *api.Game) { g.Agents[0].Name = "" }, api.ErrGame},
		{func(g *api.Game) { g.Agents[0].Name = "bob" }, api.ErrGame},
		{func(g *api.Game) { g.Agents[0].Name = "none" }, api.OK},
		{func(g *api.Game) { g.Agents[0].Name = "low" }, api.OK},
		{func(g *api.Game) { g.Agents[0].Name = strings.Repeat("z", 12) }, api.OK},
		{func(g *api.Game) { g.Agents[0].Name = strings.Repeat("z", 13) }, api.ErrGame},
		{func(g *api.Game) { g.Agents[0].Name = "aB" }, api.ErrGame},
		{func(g *api.Game) { g.Agents[0].Name = "a`" }, api.ErrGame},
		{func(g *api.Game) { g.Agents[0].Name = "a{" }, api.ErrGame},
		{func(g *api.Game) { g.Agents[0].Name = "a b" }, api.ErrGame},
		{func(g *api.Game) { g.Agents[0].Kinds[0].Name = "" }, api.ErrGame},
		{func(g *api.Game) { g.Agents[0].Kinds[0].Name = "high" }, api.ErrGame},
		{func(g *api.Game) { g.Agents[0].Kinds[0].Name = "mid" }, api.OK},
		{func(g *api.Game) { g.Outs[3] = "a\n" }, api.ErrGame},
		{func(g *api.Game) { g.Outs[3] = "none" }, api.ErrGame},

		{func(g *api.Game) { g.Agents[0].Kinds[0].Weight = num(0, 1) }, api.OK},
		{func(g *api.Game) { g.Agents[0].Kinds[0].Weight = num(-1, 9) }, api.ErrGame},
		{func(g *api.Game) {
			g.Agents[0].Kinds[0].Weight = api.Frac{Neg: true, Num: []uint32{2}, Den: []uint32{2}}
		}, api.OK},
		{func(g *api.Game) { g.Agents[0].Kinds[0].Worth = nums(1, 2, 3) }, api.ErrGame},
		{func(g *api.Game) { g.Agents[0].Kinds[0].Worth = nums(1, 2, 3, 4, 5) }, api.ErrGame},
		{func(g *api.Game) { g.Agents[0].Kinds[0].Worth = nil }, api.ErrGame},
		{func(g *api.Game) { g.Agents[1].Kinds[2].Worth = make([]api.Frac, 4) }, api.OK},
		{func(g *api.Game) { g.Aim = 0 }, api.ErrGame},
		{func(g *api.Game) { g.Aim = -1 }, api.ErrGame},
		{func(g *api.Game) { g.Aim = api.AimTotal }, api.OK},
		{func(g *api.Game) { g.Aim = api.AimPaid }, api.OK},
		{func(g *api.Game) { g.Aim = 4 }, api.ErrGame},
	} {
		if e := speech.Right(changed(t, c.change)); e != c.e {
			t.Errorf("change %d: %d, not %d", i, e, c.e)
		}
	}
}

// Each kind of need has its fields, and no others.
func TestRightNeeds(t *testing.T) {
	swap := []int{1, 0, 2, 3}
	for i, c := range []struct {
		needs []api.Need
		e     api.Errno
	}{
		{[]api.Need{{Kind: 0}}, api.ErrGame},
		{[]api.Need{{Kind: 7}}, api.ErrGame},
		{[]api.Need{{Kind: -1}}, api.ErrGame},
		{[]api.Need{{Kind: api.NeedPart}, {Kind: api.NeedBudget}, {Kind: api.NeedEven}, {Kind: api.NeedBound}}, api.OK},
		{[]api.Need{{Kind: api.NeedPart, Bound: wrong()}}, api.OK},
		{[]api.Need{{Kind: api.NeedPart, Outs: []int{}, Swap: []int{}}}, api.OK},
		{[]api.Need{{Kind: api.NeedPart, Bound: num(1, 1)}}, api.ErrGame},
		{[]api.Need{{Kind: api.NeedBudget, Agent: 1}}, api.ErrGame},
		{[]api.Need{{Kind: api.NeedEven, Other: -1}}, api.ErrGame},
		{[]api.Need{{Kind: api.NeedEven, Outs: []int{0}}}, api.ErrGame},
		{[]api.Need{{Kind: api.NeedBudget, Swap: swap}}, api.ErrGame},
		{[]api.Need{{Kind: api.NeedPart}, {Kind: api.NeedPart}}, api.ErrGame},
		{[]api.Need{{Kind: api.NeedBudget}, {Kind: api.NeedPart}, {Kind: api.NeedBudget}}, api.ErrGame},
		{[]api.Need{{Kind: api.NeedEven}, {Kind: api.NeedEven}}, api.ErrGame},

		{[]api.Need{{Kind: api.NeedBound, Bound: num(1, 2)}}, api.OK},
		{[]api.Need{{Kind: api.NeedBound, Bound: wrong()}}, api.OK},
		{[]api.Need{{Kind: api.NeedBound, Bound: num(-1, 2)}}, api.ErrGame},
		{[]api.Need{{Kind: api.NeedBound, Agent: 1}}, api.ErrGame},
		{[]api.Need{{Kind: api.NeedBound, Outs: []int{0}}}, api.ErrGame},
		{[]api.Need{{Kind: api.NeedBound, Bound: num(1, 2)}, {Kind: api.NeedBound, Bound: num(1, 3)}}, api.ErrGame},

		{[]api.Need{{Kind: api.NeedEnvy, Agent: 0, Other: 1, Swap: swap}}, api.OK},
		{[]api.Need{{Kind: api.NeedEnvy, Agent: 0, Other: 1, Swap: []int{0, 1, 2, 3}}}, api.OK},
		{[]api.Need{{Kind: api.NeedEnvy, Agent: 0, Other: 1, Swap: []int{3, 2, 1, 0}}}, api.OK},
		{[]api.Need{{Kind: api.NeedEnvy, Agent: 1, Other: 0, Swap: swap}}, api.ErrGame},
		{[]api.Need{{Kind: api.NeedEnvy, Agent: 1, Other: 1, Swap: swap}}, api.ErrGame},
		{[]api.Need{{Kind: api.NeedEnvy, Agent: 0, Other: 2, Swap: swap}}, api.ErrGame},
		{[]api.Need{{Kind: api.NeedEnvy, Agent: -1, Other: 1, Swap: swap}}, api.ErrGame},
		{[]api.Need{{Kind: api.NeedEnvy, Agent: 0, Other: 1, Swap: []int{1, 2, 0, 3}}}, api.ErrGame},
		{[]api.Need{{Kind: api.NeedEnvy, Agent: 0, Other: 1, Swap: []int{1, 0, 2}}}, api.ErrGame},
		{[]api.Need{{Kind: api.NeedEnvy, Agent: 0, Other: 1, Swap: []int{0, 1, 2, 3, 4}}}, api.ErrGame},
		{[]api.Need{{Kind: api.NeedEnvy, Agent: 0, Other: 1, Swap: []int{0, 1, 2, 4}}}, api.ErrGame},
		{[]api.Need{{Kind: api.NeedEnvy, Agent: 0, Other: 1, Swap: []int{0, 1, 2, -1}}}, api.ErrGame},
		{[]api.Need{{Kind: api.NeedEnvy, Agent: 0, Other: 1, Swap: swap, Outs: []int{0}}}, api.ErrGame},
		{[]api.Need{{Kind: api.NeedEnvy, Agent: 0, Other: 1, Swap: swap, Bound: num(1, 1)}}, api.ErrGame},
		{[]api.Need{{Kind: api.NeedEnvy, Agent: 0, Other: 1, Swap: swap}, {Kind: api.NeedEnvy, Agent: 0, Other: 1, Swap: swap}}, api.ErrGame},
		{[]api.Need{{Kind: api.NeedEnvy, Agent: 0, Other: 1, Swap: swap}, {Kind: api.NeedEnvy, Agent: 0, Other: 1, Swap: []int{0, 1, 2, 3}}}, api.ErrGame},

		{[]api.Need{{Kind: api.NeedOrder, Agent: 1, Outs: []int{0, 1, 2, 3}}}, api.OK},
		{[]api.Need{{Kind: api.NeedOrder, Agent: 1, Outs: []int{3}}, {Kind: api.NeedOrder, Agent: 1, Outs: []int{3}}}, api.OK},
		{[]api.Need{{Kind: api.NeedOrder, Agent: 2, Outs: []int{0}}}, api.ErrGame},
		{[]api.Need{{Kind: api.NeedOrder, Agent: -1, Outs: []int{0}}}, api.ErrGame},
		{[]api.Need{{Kind: api.NeedOrder, Outs: nil}}, api.ErrGame},
		{[]api.Need{{Kind: api.NeedOrder, Outs: []int{1, 0}}}, api.ErrGame},
		{[]api.Need{{Kind: api.NeedOrder, Outs: []int{1, 1}}}, api.ErrGame},
		{[]api.Need{{Kind: api.NeedOrder, Outs: []int{3, 4}}}, api.ErrGame},
		{[]api.Need{{Kind: api.NeedOrder, Outs: []int{-1, 0}}}, api.ErrGame},
		{[]api.Need{{Kind: api.NeedOrder, Outs: []int{0}, Other: 1}}, api.ErrGame},
		{[]api.Need{{Kind: api.NeedOrder, Outs: []int{0}, Swap: swap}}, api.ErrGame},
		{[]api.Need{{Kind: api.NeedOrder, Outs: []int{0}, Bound: num(1, 1)}}, api.ErrGame},
	} {
		g := changed(t, func(g *api.Game) { g.Needs = c.needs })
		if e := speech.Right(g); e != c.e {
			t.Errorf("needs %d: %d, not %d", i, e, c.e)
		}
	}
}

// Envy of three agents: no two needs have the same two.
func TestEnvies(t *testing.T) {
	g := game(t, "game total\nouts a\nagent x\nkind k 1 0 0\nagent y\nkind k 1 0 0\nagent z\nkind k 1 0 0\nenvy x y a\nenvy x z a\nenvy y z a\n")
	if speech.Right(g) != api.OK {
		t.Error("three needs of envy")
	}
	g.Needs[2] = g.Needs[1]
	if speech.Right(g) != api.ErrGame {
		t.Error("the same two")
	}
}

// Of games that are not right there is no text, profile, place, weight or rule.
func TestNotRight(t *testing.T) {
	r := rand.New(rand.NewSource(31))
	for range 200 {
		g := drawGame(r)
		rule, profiles := drawRule(r, g), speech.Profiles(g)
		if speech.Right(g) != api.OK || speech.Print(g) == "" || speech.PrintRule(g, rule) == "" || len(profiles) == 0 {
			t.Fatal("a right game", g)
		}
		text := speech.PrintRule(g, rule)
		g.Aim = 0
		if speech.Print(g) != "" || speech.PrintRule(g, rule) != "" || speech.Profiles(g) != nil || speech.Index(g, profiles[0]) != -1 {
			t.Fatal("a game without an aim")
		}
		if _, e, line := speech.ParseRule(g, text); e != api.ErrGame || line != 0 {
			t.Fatal("a rule of a game without an aim", e, line)
		}
		if !sameNumbers(nums(0), []api.Frac{speech.Weight(g, profiles[0])}) {
			t.Fatal("a weight of a game without an aim")
		}
	}
}
