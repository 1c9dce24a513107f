package toll_test

import (
	"math/big"
	"math/rand"
	"testing"

	"unbent/api"
	"unbent/frac"
	"unbent/rule"
	"unbent/speech"
	"unbent/toll"
)

// drawGame is a right game, with payments or not.
func drawGame(r *rand.Rand) api.Game {
	g := api.Game{Outs: []string{"t", "u", "v", "w", "x", "y"}[:1+r.Intn(6)], Pay: r.Intn(5) > 0, Lots: r.Intn(2) == 0, Aim: 1 + r.Intn(3)}
	left := api.MaxProfiles
	for a := range 1 + r.Intn(api.MaxAgents) {
		agent := api.Agent{Name: string(rune('a' + a))}
		n := 1 + r.Intn(min(api.MaxKinds, left))
		left /= n
		for k := range n {
			kind := api.Kind{Name: string(rune('a' + k)), Weight: num(r.Intn(4), 2), Alone: drawSmall(r, 2), Worth: drawSmalls(r, len(g.Outs), 3)}
			agent.Kinds = append(agent.Kinds, kind)
		}
		g.Agents = append(g.Agents, agent)
	}
	if r.Intn(2) == 0 {
		g.Needs = []api.Need{{Kind: api.NeedEven}}
	}
	return g
}

// worthAll is what an outcome is worth at a profile to all agents but one.
func worthAll(g api.Game, profile []int, out, without int) *big.Rat {
	sum := new(big.Rat)
	for a, k := range profile {
		if a != without {
			sum.Add(sum, value(g.Agents[a].Kinds[k].Worth[out]))
		}
	}
	return sum
}

// mostWorth is the first outcome that is worth most, and what it is worth.
func mostWorth(g api.Game, profile []int, without int) (int, *big.Rat) {
	at, most := 0, worthAll(g, profile, 0, without)
	for o := range g.Outs {
		if worth := worthAll(g, profile, o, without); worth.Cmp(most) > 0 {
			at, most = o, worth
		}
	}
	return at, most
}

// Clarke's rule, by its words.
func TestClarke(t *testing.T) {
	r := rand.New(rand.NewSource(71))
	for range 600 {
		g := drawGame(r)
		law, e := toll.Clarke(g)
		if !g.Pay {
			if e != api.ErrRule || law.Cells != nil {
				t.Fatal("without payments", e)
			}
			continue
		}
		if e != api.OK || rule.Right(g, law) != api.OK {
			t.Fatal("Clarke", e, law)
		}
		for i, profile := range speech.Profiles(g) {
			chosen, _ := mostWorth(g, profile, nobody)
			for o, chance := range law.Cells[i].Lot {
				if wanted := map[bool]int{true: 1}[o == chosen]; !isRightly(chance, num(wanted, 1)) {
					t.Fatal(speech.Print(g), profile, "chooses", law.Cells[i].Lot)
				}
			}
			for a, pay := range law.Cells[i].Pay {
				_, most := mostWorth(g, profile, a)
				if !is(pay, less(most, worthAll(g, profile, chosen, a))) {
					t.Fatal(speech.Print(g), profile, "pays", a, frac.Print(pay))
				}
			}
		}
	}
}

const nobody = -1

// P6.3: nobody gains by a lie, no rule is worth more, and where nothing is worth less than 0, nobody has or pays less than 0.
func TestClarkeIsTruthful(t *testing.T) {
	r := rand.New(rand.NewSource(72))
	for range 300 {
		g := drawGame(r)
		g.Pay, g.Needs, g.Aim = true, []api.Need{{Kind: api.NeedPart}}, api.AimTotal
		for _, a := range g.Agents {
			for k := range a.Kinds {
				a.Kinds[k].Alone = num(-r.Intn(2), 1)
				for o, w := range a.Kinds[k].Worth {
					a.Kinds[k].Worth[o] = frac.Mul(w, num(frac.Sign(w), 1))
				}
			}
		}
		law, e := toll.Clarke(g)
		if lie, ok := rule.Truthful(g, law); e != api.OK || !ok {
			t.Fatal(speech.Print(g), lie, e)
		}
		if at, ok := rule.Meets(g, law); !ok {
			t.Fatal(speech.Print(g), "need", at)
		}
		for _, c := range law.Cells {
			if frac.Sign(c.Pay[frac.Least(c.Pay)]) < 0 {
				t.Fatal(speech.Print(g), "is paid", c.Pay)
			}
		}
		for o := range g.Outs {
			other := api.Cell{Lot: nums(make([]int, len(g.Outs))...), Pay: nums(make([]int, len(g.Agents))...)}
			other.Lot[o] = num(1, 1)
			fixed, _ := rule.Fixed(g, other)
			if frac.Cmp(rule.Aim(g, fixed), rule.Aim(g, law)) > 0 {
				t.Fatal(speech.Print(g), "more is worth", o)
			}
		}
	}
}

// The errors are chapter 3's, ahead of that of a game without payments.
func TestWrongGames(t *testing.T) {
	kind := api.Kind{Name: "k", Weight: num(1, 1), Alone: num(0, 1), Worth: nums(1)}
	right := api.Game{Agents: []api.Agent{{Name: "a", Kinds: []api.Kind{kind}}}, Outs: []string{"o"}, Aim: api.AimTotal}
	many, other := right, right
	many.Outs = []string{"a", "b", "c", "d", "e", "f", "g"}
	other.Aim = 4
	for _, pay := range []bool{false, true} {
		for _, g := range []api.Game{{}, many, other} {
			g.Pay = pay
			if law, e := toll.Clarke(g); e == api.OK || e != speech.Right(g) || law.Cells != nil {
				t.Error("Clarke", law, e)
			}
		}
	}
	if _, e := toll.Clarke(many); e != api.ErrSize {
		t.Error("seven outcomes", e)
	}
	if _, e := toll.Clarke(right); e != api.ErrRule {
		t.Error("no payments", e)
	}
	right.Pay = true
	if law, e := toll.Clarke(right); e != api.OK || !sameCells(law.Cells, []api.Cell{{Lot: nums(1), Pay: nums(0)}}) {
		t.Error("one agent", law, e)
	}
}
