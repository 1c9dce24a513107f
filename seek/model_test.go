package seek_test

import (
	"math/rand"
	"slices"
	"testing"

	"unbent/api"
	"unbent/frac"
	"unbent/plane"
	"unbent/rule"
	"unbent/seek"
	"unbent/speech"
)

// checkModel holds a game's program against the second reading of the chapter.
func checkModel(t *testing.T, g api.Game) {
	t.Helper()
	o := newOracle(g)
	p, e := seek.Model(g)
	conds := o.conds()
	if o.vars() > api.MaxVars || len(conds) > api.MaxRows {
		if e != api.ErrSize || p.Vars != 0 || p.Free != nil || p.Goal != nil || p.Rows != nil {
			t.Errorf("%serror %d of a program that is too large", speech.Print(g), e)
		}
		return
	}
	if e != api.OK || plane.Right(p) != api.OK || p.Vars != o.vars() || len(p.Rows) != len(conds) {
		t.Fatalf("%serror %d, %d variables, %d rows, wanted %d and %d", speech.Print(g), e, p.Vars, len(p.Rows), o.vars(), len(conds))
	}
	for v, free := range p.Free {
		if free == (v%o.step() < len(g.Outs) && v < len(o.all)*o.step()) {
			t.Errorf("%svariable %d is free: %v", speech.Print(g), v, free)
		}
	}
	if !are(p.Goal, o.numbers(o.aim)) {
		t.Errorf("%sgoal %v", speech.Print(g), p.Goal)
	}
	for i, c := range conds {
		row := p.Rows[i]
		if !are(row.A, o.numbers(c.of)) || row.Sense != c.sense || !are([]api.Frac{row.B}, point{c.bound}) {
			t.Fatalf("%srow %d: %v", speech.Print(g), i, row)
		}
	}
}

// P5.1: the program of a game is as the chapter says, number by number.
func TestModel(t *testing.T) {
	r := rand.New(rand.NewSource(1))
	for range 150 {
		checkModel(t, drawGame(r, size{6, 4, 3}, 2))
	}
	for range 6 {
		checkModel(t, drawGame(r, size{16, 6, 9}, 1+r.Intn(3)))
	}
}

// The rows of a game with each need, in their order, written out.
func TestModelWrittenOut(t *testing.T) {
	g := game(t, "game pay lots worst\nouts none ann bob\nagent ann\nkind low 1 1 0 1 0\nkind high 1 2 0 3 0\nagent bob\nkind mid 1/2 -1 0 0 2\n"+
		"order ann none bob\nenvy ann bob none bob ann\nbound 5\neven\nbudget\npart\n")
	wanted := []struct {
		sense, b int
		a        []int
	}{
		{0, 1, []int{1, 1, 1, 0, 0, 0, 0, 0, 0, 0, 0}},
		{0, 1, []int{0, 0, 0, 0, 0, 1, 1, 1, 0, 0, 0}},
		{1, 0, []int{0, 1, 0, -1, 0, 0, -1, 0, 1, 0, 0}}, // low, not high
		{1, 0, []int{0, -3, 0, 1, 0, 0, 3, 0, -1, 0, 0}}, // high, not low
		{1, 0, []int{0, 1, 0, -1, 0, 0, 0, 0, 0, 0, -1}}, // the floor
		{1, 0, []int{0, 0, 2, 0, -1, 0, 0, 0, 0, 0, -1}},
		{1, 0, []int{0, 0, 0, 0, 0, 0, 3, 0, -1, 0, -1}},
		{1, 0, []int{0, 0, 0, 0, 0, 0, 0, 2, 0, -1, -1}},
		{1, 0, []int{-1, 0, -1, 0, 0, 1, 0, 1, 0, 0, 0}}, // order
		{1, 0, []int{0, 1, -1, -1, 1, 0, 0, 0, 0, 0, 0}}, // envy
		{1, 0, []int{0, -2, 2, 1, -1, 0, 0, 0, 0, 0, 0}},
		{1, 0, []int{0, 0, 0, 0, 0, 0, 3, -3, -1, 1, 0}},
		{1, 0, []int{0, 0, 0, 0, 0, 0, -2, 2, 1, -1, 0}},
		{-1, 5, []int{0, 0, 0, 1, 0, 0, 0, 0, 0, 0, 0}}, // bound
		{1, -5, []int{0, 0, 0, 1, 0, 0, 0, 0, 0, 0, 0}},
		{-1, 5, []int{0, 0, 0, 0, 1, 0, 0, 0, 0, 0, 0}},
		{1, -5, []int{0, 0, 0, 0, 1, 0, 0, 0, 0, 0, 0}},
		{-1, 5, []int{0, 0, 0, 0, 0, 0, 0, 0, 1, 0, 0}},
		{1, -5, []int{0, 0, 0, 0, 0, 0, 0, 0, 1, 0, 0}},
		{-1, 5, []int{0, 0, 0, 0, 0, 0, 0, 0, 0, 1, 0}},
		{1, -5, []int{0, 0, 0, 0, 0, 0, 0, 0, 0, 1, 0}},
		{0, 0, []int{0, 0, 0, 1, 1, 0, 0, 0, 0, 0, 0}}, // even
		{0, 0, []int{0, 0, 0, 0, 0, 0, 0, 0, 1, 1, 0}},
		{1, 0, []int{0, 0, 0, 1, 1, 0, 0, 0, 0, 0, 0}}, // budget
		{1, 0, []int{0, 0, 0, 0, 0, 0, 0, 0, 1, 1, 0}},
		{1, 1, []int{0, 1, 0, -1, 0, 0, 0, 0, 0, 0, 0}}, // part
		{1, -1, []int{0, 0, 2, 0, -1, 0, 0, 0, 0, 0, 0}},
		{1, 2, []int{0, 0, 0, 0, 0, 0, 3, 0, -1, 0, 0}},
		{1, -1, []int{0, 0, 0, 0, 0, 0, 0, 2, 0, -1, 0}},
	}
	p, e := seek.Model(g)
	if e != api.OK || len(p.Rows) != len(wanted) {
		t.Fatal(len(p.Rows), e)
	}
	for i, w := range wanted {
		if row := p.Rows[i]; row.Sense != w.sense || !isRightly(row.B, num(w.b, 1)) || !areRightly(row.A, nums(w.a...)) {
			t.Errorf("row %d: %v, wanted %v", i, row, w)
		}
	}
	checkModel(t, g)
	g.Pay = false // rows about payments alone stay, with nothing but 0
	if p, e := seek.Model(g); e != api.OK || p.Vars != 7 || len(p.Rows) != len(wanted) || !areRightly(p.Rows[13].A, nums(make([]int, 7)...)) {
		t.Error("without payments", p.Vars, len(p.Rows), e)
	}
	checkModel(t, g)
}

// wide is a game of so many outcomes and, for each agent, so many kinds.
func wide(outs int, kinds ...int) api.Game {
	g := api.Game{Lots: true, Aim: api.AimTotal}
	for o := range outs {
		g.Outs = append(g.Outs, string(rune('a'+o)))
	}
	for a, n := range kinds {
		agent := api.Agent{Name: string(rune('a' + a))}
		for k := range n {
			agent.Kinds = append(agent.Kinds, api.Kind{Name: string(rune('a' + k)), Worth: nums(make([]int, outs)...)})
		}
		g.Agents = append(g.Agents, agent)
	}
	return g
}

// needy is a game with needs: some of those that come once, some of envy and some of order.
func needy(g api.Game, once []int, envies, orders int) api.Game {
	g.Needs = nil
	for _, kind := range once {
		g.Needs = append(g.Needs, api.Need{Kind: kind})
	}
	var swap []int
	for o := range g.Outs {
		swap = append(swap, o)
	}
	for other := range g.Agents {
		for agent := range other {
			if envies > 0 {
				g.Needs = append(g.Needs, api.Need{Kind: api.NeedEnvy, Agent: agent, Other: other, Swap: swap})
				envies--
			}
		}
	}
	for range orders {
		g.Needs = append(g.Needs, api.Need{Kind: api.NeedOrder, Outs: []int{0}})
	}
	return g
}

// Programs of just as many variables and rows as there may be, and of more.
func TestModelSizes(t *testing.T) {
	vars := wide(6, 2, 2, 2, 2)
	vars.Pay = true
	if p, e := seek.Model(vars); e != api.OK || p.Vars != api.MaxVars {
		t.Error("160 variables", p.Vars, e)
	}
	vars.Aim = api.AimWorst
	checkModel(t, vars) // 161
	all := []int{api.NeedPart, api.NeedBudget, api.NeedEven, api.NeedBound}
	rows := needy(wide(2, 2, 2, 2, 2), all, 3, 0)
	if p, e := seek.Model(rows); e != api.OK || len(p.Rows) != api.MaxRows {
		t.Error("400 rows", len(p.Rows), e)
	}
	checkModel(t, needy(rows, all, 3, 1))
	checkModel(t, needy(rows, all, 4, 0))
	for _, g := range []api.Game{{}, wide(7, 2), wide(2, 2, 2, 2, 2, 2), wide(2, 5), wide(2, 4, 4, 2)} {
		if p, e := seek.Model(g); e != api.ErrGame || p.Vars != 0 || p.Free != nil || p.Goal != nil || p.Rows != nil {
			t.Error("no right game", p, e)
		}
	}
}

// P5.7: the point of a rule fits just if the rule is good; its value is the rule's aim.
func TestPointFits(t *testing.T) {
	r := rand.New(rand.NewSource(2))
	count := map[bool]int{}
	for range 600 {
		g := drawGame(r, size{8, 4, 2}, 4)
		for _, law := range []api.Rule{drawRule(r, g), drawTruthful(r, g), drawGood(r, g)} {
			p, e := seek.Model(g)
			if e != api.OK {
				t.Fatal(e)
			}
			x := seek.PointOf(g, law)
			good := isGood(g, law)
			if plane.Fits(p, x) != good {
				t.Errorf("%s%sfits: %v", speech.Print(g), speech.PrintRule(g, law), !good)
			}
			if !isRightly(plane.Value(p, x), rule.Aim(g, law)) {
				t.Errorf("%s%svalue %s", speech.Print(g), speech.PrintRule(g, law), frac.Print(plane.Value(p, x)))
			}
			count[good]++
		}
	}
	if count[true] < 300 || count[false] < 300 {
		t.Error("drawn rules", count)
	}
}

// P5.2: whole variables are the chances of games without lotteries.
func TestWholes(t *testing.T) {
	g := game(t, "game pay worst\nouts a b\nagent x\nkind k 1 0 0 0\nagent y\nkind k 1 0 0 0\nkind l 1 0 0 0\nkind m 1 0 0 0\n")
	if got := seek.Wholes(g); !slices.Equal(got, []int{0, 1, 4, 5, 8, 9}) {
		t.Error("with payments", got)
	}
	g.Pay = false
	if got := seek.Wholes(g); !slices.Equal(got, []int{0, 1, 2, 3, 4, 5}) {
		t.Error("without payments", got)
	}
	g.Lots = true
	if got := seek.Wholes(g); len(got) != 0 {
		t.Error("with lotteries", got)
	}
	g.Lots, g.Aim = false, 0
	if got := seek.Wholes(g); len(got) != 0 {
		t.Error("of no right game", got)
	}
	large := wide(6, 2, 2, 2, 2)
	large.Lots = false
	if got := seek.Wholes(large); len(got) != 96 || got[95] != 95 {
		t.Error("of a large game", got)
	}
}

// P5.2: the rule of a point has what stands at its places, and 0 for what the point does not have.
func TestRuleOf(t *testing.T) {
	g := game(t, "game pay lots total\nouts a b\nagent x\nkind k 1 0 0 0\nkind l 1 0 0 0\nagent y\nkind k 1 0 0 0\n")
	x := nums(1, 2, 3, 4, 5, 6, 7, 8, 9)
	check := func(what string, got api.Rule, lots, pays [][]int) {
		t.Helper()
		var wanted []api.Cell
		for i := range lots {
			wanted = append(wanted, api.Cell{Lot: nums(lots[i]...), Pay: nums(pays[i]...)})
		}
		if !sameCells(got.Cells, wanted) {
			t.Error(what, got)
		}
	}
	check("all", seek.RuleOf(g, x[:8]), [][]int{{1, 2}, {5, 6}}, [][]int{{3, 4}, {7, 8}})
	check("more than all", seek.RuleOf(g, x), [][]int{{1, 2}, {5, 6}}, [][]int{{3, 4}, {7, 8}})
	check("less", seek.RuleOf(g, x[:5]), [][]int{{1, 2}, {5, 0}}, [][]int{{3, 4}, {0, 0}})
	check("less than a cell", seek.RuleOf(g, x[:3]), [][]int{{1, 2}, {0, 0}}, [][]int{{3, 0}, {0, 0}})
	check("nothing", seek.RuleOf(g, nil), [][]int{{0, 0}, {0, 0}}, [][]int{{0, 0}, {0, 0}})
	x[0], x[6] = wrong(), wrong()
	check("wrong numbers", seek.RuleOf(g, x), [][]int{{0, 2}, {5, 6}}, [][]int{{3, 4}, {0, 8}})
	g.Pay = false
	check("no payments", seek.RuleOf(g, nums(1, 2, 3, 4, 5)), [][]int{{1, 2}, {3, 4}}, [][]int{{0, 0}, {0, 0}})
	g.Outs = nil
	if got := seek.RuleOf(g, x); len(got.Cells) != 0 {
		t.Error("of no right game", got)
	}
}

// P5.2: the point of a rule has its numbers at their places, and its aim at the floor.
func TestPointOf(t *testing.T) {
	g := game(t, "game pay lots worst\nouts a b\nagent x\nkind k 1 0 4 0\nkind l 1 0 0 6\n")
	r := law(t, g, "rule\ncell k 1/2 1/2 -3\ncell l 0 1 2\n")
	wanted := []api.Frac{num(1, 2), num(1, 2), num(-3, 1), num(0, 1), num(1, 1), num(2, 1), num(4, 1)} // 5 and 4
	if got := seek.PointOf(g, r); !areRightly(got, wanted) {
		t.Error("floor", got)
	}
	g.Aim = api.AimTotal
	if got := seek.PointOf(g, r); !areRightly(got, wanted[:6]) {
		t.Error("no floor", got)
	}
	if got := seek.PointOf(g, api.Rule{Cells: r.Cells[1:]}); len(got) != 0 {
		t.Error("of a rule that does not fit", got)
	}
	g.Lots = false
	if got := seek.PointOf(g, r); len(got) != 0 {
		t.Error("of a rule with lotteries", got)
	}
	g.Lots, g.Pay = true, false
	if got := seek.PointOf(g, r); len(got) != 0 {
		t.Error("of a rule with payments", got)
	}
	r = law(t, g, "rule\ncell k 1/2 1/2\ncell l 0 1\n")
	if got := seek.PointOf(g, r); !areRightly(got, []api.Frac{num(1, 2), num(1, 2), num(0, 1), num(1, 1)}) {
		t.Error("no payments", got)
	}
	g.Agents[0].Name = ""
	if got := seek.PointOf(g, r); len(got) != 0 {
		t.Error("of no right game", got)
	}
}

// P5.2: RuleOf and PointOf undo one another, also where the program would be too large.
func TestThereAndBack(t *testing.T) {
	r := rand.New(rand.NewSource(3))
	for range 200 {
		g := drawGame(r, size{16, 6, 3}, 2)
		law := drawRule(r, g)
		if got := seek.RuleOf(g, seek.PointOf(g, law)); !sameCells(got.Cells, law.Cells) {
			t.Errorf("%s%s: %v", speech.Print(g), speech.PrintRule(g, law), got)
		}
	}
	large := wide(6, 2, 2, 2, 2)
	large.Pay, large.Aim = true, api.AimWorst
	law := drawRule(r, large)
	if x := seek.PointOf(large, law); len(x) != 161 || !sameCells(seek.RuleOf(large, x).Cells, law.Cells) {
		t.Error("a large game", len(x))
	}
}
