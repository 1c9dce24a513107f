package rule_test

import (
	"math/rand"
	"slices"
	"testing"

	"unbent/api"
	"unbent/frac"
	"unbent/rule"
	"unbent/speech"
)

// Example 1 of the chapter: what agents have, the truth, and a lie that gains.
func TestSale(t *testing.T) {
	g := game(t, sale)
	r := law(t, g, "rule\ncell low mid 0 0 1 0 1\ncell high mid 0 1 0 2 0\n")
	for _, c := range []struct {
		agent, kind int
		profile     []int
		wanted      int
	}{
		{0, 1, []int{1, 0}, 1},
		{0, 1, []int{0, 0}, 0},
		{0, 0, []int{0, 0}, 0},
		{0, 0, []int{1, 0}, -1},
		{1, 0, []int{0, 0}, 1},
		{1, 0, []int{1, 0}, 0},
	} {
		if got := rule.Worth(g, r, c.agent, c.kind, c.profile); !isRightly(got, num(c.wanted, 1)) {
			t.Error("Worth", c, got)
		}
	}
	if lie, ok := rule.Truthful(g, r); !ok || !sameLie(lie, noLie(0, 0)) {
		t.Error("Truthful", lie, ok)
	}
	free := law(t, g, "rule\ncell low mid 0 0 1 0 1\ncell high mid 0 1 0 0 0\n")
	wanted := api.Lie{Agent: 0, Kind: 0, Told: 1, Profile: []int{0, 0}, Gain: num(1, 1)}
	if lie, ok := rule.Truthful(g, free); ok || !sameLie(lie, wanted) {
		t.Error("Truthful", lie, ok)
	}
	if lies := rule.Gains(g, free); !slices.EqualFunc(lies, []api.Lie{wanted, noLie(1, 0)}, sameLie) {
		t.Error("Gains", lies)
	}
}

// Of several lies: the first that gains, and the first of those that gain most.
func TestOrderOfLies(t *testing.T) {
	g := game(t, "game pay total\nouts a\nagent x\nkind k 1 0 0\nkind l 1 0 0\nkind m 1 0 0\nagent y\nkind k 1 0 0\nkind l 1 0 0\n")
	r := law(t, g, "rule\ncell k k 1 0 0\ncell k l 1 3 0\ncell l k 1 0 0\ncell l l 1 2 1\ncell m k 1 0 0\ncell m l 1 0 0\n")
	if lie, ok := rule.Truthful(g, r); ok || !sameLie(lie, api.Lie{Agent: 0, Kind: 0, Told: 1, Profile: []int{0, 1}, Gain: num(1, 1)}) {
		t.Error("Truthful", lie, ok)
	}
	wanted := []api.Lie{
		{Agent: 0, Kind: 0, Told: 2, Profile: []int{0, 1}, Gain: num(3, 1)},
		{Agent: 1, Kind: 1, Told: 0, Profile: []int{1, 1}, Gain: num(1, 1)},
	}
	if lies := rule.Gains(g, r); !slices.EqualFunc(lies, wanted, sameLie) {
		t.Error("Gains", lies)
	}
	r = law(t, g, "rule\ncell k k 1 1 0\ncell k l 1 1 0\ncell l k 1 0 0\ncell l l 1 0 0\ncell m k 1 0 0\ncell m l 1 0 0\n")
	wanted = []api.Lie{{Agent: 0, Kind: 0, Told: 1, Profile: []int{0, 0}, Gain: num(1, 1)}, noLie(1, 0)}
	if lies := rule.Gains(g, r); !slices.EqualFunc(lies, wanted, sameLie) {
		t.Error("Gains of several", lies)
	}
}

// P4.1, P4.2: what agents have, and lies, are as the chapter says, also of rules of which nobody gains by one.
func TestLiesByDefinition(t *testing.T) {
	r := rand.New(rand.NewSource(41))
	truths := 0
	for i := range 600 {
		g := drawGame(r)
		law := drawRule(r, g)
		if i%2 == 1 {
			law = drawTruthful(r, g)
		}
		o := oracle{g, law}
		for _, profile := range o.profiles() {
			for agent, a := range g.Agents {
				for kind := range a.Kinds {
					if got := rule.Worth(g, law, agent, kind, profile); !isRightly(got, told(o.has(agent, kind, profile))) {
						t.Fatal("Worth", agent, kind, profile, frac.Print(got))
					}
				}
			}
		}
		lie, ok := rule.Truthful(g, law)
		if wanted, truth := o.truthful(); ok != truth || !sameLie(lie, wanted) || i%2 == 1 && !ok {
			t.Fatal("Truthful", lie, ok, wanted, speech.Print(g), speech.PrintRule(g, law))
		}
		if ok {
			truths++
		}
		if got := rule.Gains(g, law); !slices.EqualFunc(got, o.gains(), sameLie) {
			t.Fatal("Gains", got, o.gains())
		}
	}
	if truths < 310 || truths > 590 {
		t.Error("rules of which nobody gains by a lie:", truths)
	}
}

// Which rules fit and which are plain.
func TestRight(t *testing.T) {
	g := game(t, "game pay lots total\nouts a b\nagent x\nkind k 1 0 0 0\nkind l 1 0 0 0\n")
	cells := func(lots ...[]api.Frac) api.Rule {
		var out api.Rule
		for _, lot := range lots {
			out.Cells = append(out.Cells, api.Cell{Lot: lot, Pay: nums(0)})
		}
		return out
	}
	half := []api.Frac{num(1, 2), num(1, 2)}
	for i, c := range []struct {
		r     api.Rule
		right api.Errno
		plain bool
	}{
		{cells(nums(1, 0), nums(0, 1)), api.OK, true},
		{cells(nums(1, 0), []api.Frac{num(1, 1), wrong()}), api.OK, true},
		{cells(half, half), api.OK, false},
		{cells(nums(1, 0), half), api.OK, false},
		{cells(half, nums(1, 0)), api.OK, false},
		{cells(nums(1, 0)), api.ErrRule, false},
		{cells(nums(1, 0), nums(1, 0), nums(1, 0)), api.ErrRule, false},
		{cells(nums(1, 0), nums(1)), api.ErrRule, false},
		{cells(nums(1, 0), nums(1, 1)), api.ErrRule, false},
		{cells(nums(1, 0), nums(2, -1)), api.ErrRule, false},
		{cells(nums(1, 0), nums(0, 0)), api.ErrRule, false},
		{api.Rule{}, api.ErrRule, false},
	} {
		if e := rule.Right(g, c.r); e != c.right || rule.Plain(g, c.r) != c.plain {
			t.Error("rule", i, e, rule.Plain(g, c.r))
		}
	}
	g.Lots = false
	if e := rule.Right(g, cells(half, half)); e != api.ErrRule {
		t.Error("without lots", e)
	}
	g.Lots, g.Pay = true, false
	r := cells(half, half)
	r.Cells[1].Pay = nums(1)
	if e := rule.Right(g, r); e != api.ErrRule {
		t.Error("without payments", e)
	}
	g.Outs = append(g.Outs, "a")
	if e := rule.Right(g, r); e != api.ErrGame {
		t.Error("a game that is not right", e)
	}
	if e := rule.Right(api.Game{Outs: make([]string, 7)}, r); e != api.ErrGame {
		t.Error("a game that is too large", e)
	}
}

// Agents, kinds and profiles that are none have 0.
func TestNoWorth(t *testing.T) {
	g := game(t, "game total\nouts a\nagent x\nkind k 1 0 5\nkind l 1 0 5\nagent y\nkind k 1 0 5\n")
	r := law(t, g, "rule\ncell k k 1\ncell l k 1\n")
	if got := rule.Worth(g, r, 0, 1, []int{1, 0}); !isRightly(got, num(5, 1)) {
		t.Error("Worth", got)
	}
	for _, c := range []struct {
		agent, kind int
		profile     []int
	}{
		{-1, 0, []int{0, 0}}, {2, 0, []int{0, 0}}, {1 << 62, 0, []int{0, 0}},
		{0, -1, []int{0, 0}}, {0, 2, []int{0, 0}}, {1, 1, []int{0, 0}}, {0, -1 << 63, []int{0, 0}},
		{0, 0, nil}, {0, 0, []int{0}}, {0, 0, []int{0, 0, 0}}, {0, 0, []int{2, 0}}, {0, 0, []int{0, 1}}, {0, 0, []int{-1, 0}},
	} {
		if got := rule.Worth(g, r, c.agent, c.kind, c.profile); !isRightly(got, num(0, 1)) {
			t.Error("Worth", c, got)
		}
	}
}

// Of a game and a rule that are not good nothing is told.
func TestNotGood(t *testing.T) {
	g := game(t, sale)
	r := law(t, g, "rule\ncell low mid 0 1 0 0 0\ncell high mid 0 1 0 0 0\n")
	spoilt := g
	spoilt.Aim = 4
	for i, c := range []struct {
		g api.Game
		r api.Rule
	}{{spoilt, r}, {api.Game{}, api.Rule{}}, {g, api.Rule{}}, {g, api.Rule{Cells: r.Cells[:1]}}} {
		if lie, ok := rule.Truthful(c.g, c.r); ok || lie.Agent != 0 || lie.Kind != 0 || lie.Told != 0 || lie.Profile != nil || !isZeroFrac(lie.Gain) {
			t.Error("Truthful", i, lie, ok)
		}
		if lies := rule.Gains(c.g, c.r); len(lies) != 0 {
			t.Error("Gains", i, lies)
		}
		if n, ok := rule.Meets(c.g, c.r); n != -1 || ok {
			t.Error("Meets", i, n, ok)
		}
		if j, ok := rule.Group(c.g, c.r); ok || j.Group != nil || j.Told != nil || j.Profile != nil {
			t.Error("Group", i, j, ok)
		}
		if rule.Plain(c.g, c.r) {
			t.Error("Plain", i)
		}
		for _, f := range []api.Frac{rule.Aim(c.g, c.r), rule.Worth(c.g, c.r, 0, 0, []int{0, 0})} {
			if !isRightly(f, num(0, 1)) {
				t.Error("a number", i, f)
			}
		}
	}
}
