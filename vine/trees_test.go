package vine_test

import (
	"math/rand"
	"slices"
	"testing"

	"unbent/api"
	"unbent/frac"
	"unbent/speech"
	"unbent/vine"
)

// dinner is a right tree of the game meal: ann is asked for b and c; behind Yes bob for a, and behind that ann for c.
func dinner() api.Vine {
	return vineOf(ask(0, []int{1, 2}, 2, 1), end(1, 0, 0), ask(1, []int{0}, 4, 3), end(0, 0, 0), ask(0, []int{2}, 6, 5), end(0, 0, 0), end(1, 0, 0))
}

// P8.1: each part of a tree may be wrong.
func TestRightNodes(t *testing.T) {
	g := game(t, meal)
	for i, change := range []func(n []api.Node){
		func(n []api.Node) { n[0].Agent = 2 },
		func(n []api.Node) { n[0].Agent = -2 },
		func(n []api.Node) { n[0].Agent = -1 << 63 },
		func(n []api.Node) { n[2].Agent = 1<<63 - 1 },
		func(n []api.Node) { n[2].Agent = 0 },
		func(n []api.Node) { n[0].Agent, n[0].Pay = -1, nums(0, 0) },
		func(n []api.Node) { n[4] = end(0, 0, 0) },
		func(n []api.Node) { n[0].Part = nil },
		func(n []api.Node) { n[0].Part = []int{0, 1, 2} },
		func(n []api.Node) { n[0].Part = []int{2, 1} },
		func(n []api.Node) { n[0].Part = []int{1, 1, 2} },
		func(n []api.Node) { n[0].Part = []int{1, 2, 3} },
		func(n []api.Node) { n[0].Part = []int{-1, 1, 2} },
		func(n []api.Node) { n[0].Part = []int{1, 2, 1 << 62} },
		func(n []api.Node) { n[0].Part = []int{-1 << 63} },
		func(n []api.Node) { n[0].Part = []int{1} },
		func(n []api.Node) { n[4].Part = []int{1, 2} },
		func(n []api.Node) { n[4].Part = []int{0} },
		func(n []api.Node) { n[4].Part = []int{0, 1} },
		func(n []api.Node) { n[4].Part = []int{} },
		func(n []api.Node) { n[4].Part = make([]int, 5000) },
		func(n []api.Node) { n[2].Part = []int{0, 1} },
		func(n []api.Node) { n[2].Part = []int{2} },
		func(n []api.Node) { n[0].Yes = 0 },
		func(n []api.Node) { n[0].No = 0 },
		func(n []api.Node) { n[0].No = 2 },
		func(n []api.Node) { n[0].No = 7 },
		func(n []api.Node) { n[0].No = -1 },
		func(n []api.Node) { n[0].Yes = 1 << 62 },
		func(n []api.Node) { n[0].Yes = -1 << 63 },
		func(n []api.Node) { n[0].Yes = 3 },
		func(n []api.Node) { n[4].No = 6 },
		func(n []api.Node) { n[4].No = 3 },
		func(n []api.Node) { n[4].No = 4 },
		func(n []api.Node) { n[4].Yes = 1 },
		func(n []api.Node) { n[4].Yes = 7 },
		func(n []api.Node) { n[2].Yes = 0 },
		func(n []api.Node) { n[2].Yes = 2 },
		func(n []api.Node) { n[1].Out = 2 },
		func(n []api.Node) { n[1].Out = -1 },
		func(n []api.Node) { n[1].Out = 1 << 62 },
		func(n []api.Node) { n[6].Out = -1 << 63 },
		func(n []api.Node) { n[1].Pay = nil },
		func(n []api.Node) { n[1].Pay = nums(0) },
		func(n []api.Node) { n[1].Pay = nums(0, 0, 0) },
		func(n []api.Node) { n[1].Pay = nums(0, 1) },
		func(n []api.Node) { n[6].Pay[0] = num(-1, 9) },
		func(n []api.Node) { n[2], n[4] = n[4], n[2]; n[0].Yes, n[4].Yes = 4, 2 },
	} {
		v := dinner()
		change(v.Nodes)
		if e := vine.Right(g, v); e != api.ErrVine {
			t.Error("change", i, "is", e)
		}
	}
}

// P8.1: what does not matter, and what is still right.
func TestRightStill(t *testing.T) {
	g := game(t, meal)
	for i, change := range []func(n []api.Node){
		func(n []api.Node) {},
		func(n []api.Node) { n[1].Part, n[1].Yes, n[1].No = []int{9, -9}, 1, -7 },
		func(n []api.Node) { n[6].Part, n[6].Yes, n[6].No = []int{0}, 2, 2 },
		func(n []api.Node) { n[0].Out, n[0].Pay = 99, nums(1, 2, 3) },
		func(n []api.Node) { n[2].Out, n[2].Pay = -9, []api.Frac{wrong()} },
		func(n []api.Node) { n[1].Pay = []api.Frac{wrong(), {}} },
		func(n []api.Node) { n[0].Part, n[0].Yes, n[0].No = []int{0}, 1, 2 },
		func(n []api.Node) { n[3], n[4] = n[4], n[3]; n[2].Yes, n[2].No = 3, 4 },
		func(n []api.Node) { n[5], n[6] = n[6], n[5] },
	} {
		v := dinner()
		change(v.Nodes)
		if e := vine.Right(g, v); e != api.OK {
			t.Error("change", i, "is", e)
		}
	}
	if e := vine.Right(g, vineOf(end(1, 0, 0))); e != api.OK {
		t.Error("an end alone is", e)
	}
	g.Pay = true
	v := dinner()
	v.Nodes[1].Pay = []api.Frac{num(-7, 3), num(1, 2)}
	if e := vine.Right(g, v); e != api.OK {
		t.Error("with payments", e)
	}
}

// P8.1: how many nodes there are; all that are there belong to the tree.
func TestRightSizes(t *testing.T) {
	g := game(t, meal)
	for n, e := range map[int]api.Errno{0: api.ErrVine, 1: api.OK, 2: api.ErrVine, 200: api.ErrVine, 201: api.ErrVine, 5000: api.ErrVine} {
		v := api.Vine{Nodes: slices.Repeat([]api.Node{end(0, 0, 0)}, n)}
		if got := vine.Right(g, v); got != e {
			t.Error(n, "nodes are", got)
		}
	}
	v := dinner()
	if e := vine.Right(g, api.Vine{Nodes: v.Nodes[:6]}); e != api.ErrVine {
		t.Error("one node less is", e)
	}
	v.Nodes = append(v.Nodes, end(0, 0, 0))
	if e := vine.Right(g, v); e != api.ErrVine {
		t.Error("one node more is", e)
	}
}

// The tree of the most nodes: each profile has an end of its own.
func TestRightWhole(t *testing.T) {
	r := rand.New(rand.NewSource(81))
	g := drawGame(r, []int{4, 4})
	var v api.Vine
	var grow func(cell [][]int)
	grow = func(cell [][]int) {
		at := len(v.Nodes)
		for agent, kinds := range cell {
			if len(kinds) > 1 {
				v.Nodes = append(v.Nodes, ask(agent, kinds[:1], at+1, 0))
				grow(with(cell, agent, kinds[:1]))
				v.Nodes[at].No = len(v.Nodes)
				grow(with(cell, agent, kinds[1:]))
				return
			}
		}
		v.Nodes = append(v.Nodes, end(0, 0, 0))
	}
	grow(allOf(g))
	if e := vine.Right(g, v); e != api.OK || len(v.Nodes) != 31 {
		t.Error(e, len(v.Nodes))
	}
}

// P8.1: ErrGame comes first, whatever is wrong with a game.
func TestRightGame(t *testing.T) {
	for _, v := range []api.Vine{dinner(), {}, vineOf(end(9))} {
		for i, change := range []func(g *api.Game){
			func(g *api.Game) { g.Agents = nil },
			func(g *api.Game) { g.Agents = slices.Repeat(g.Agents, 3) },
			func(g *api.Game) { g.Outs = []string{"soup", "soup"} },
			func(g *api.Game) { g.Aim = 9 },
			func(g *api.Game) { g.Agents[0].Kinds[0].Weight = num(-1, 1) },
			func(g *api.Game) { g.Agents[0].Kinds = slices.Repeat(g.Agents[0].Kinds, 3) },
		} {
			g := game(t, meal)
			change(&g)
			_, _, e1 := vine.Play(g, v, []int{0, 0})
			_, e2 := vine.RuleOf(g, v)
			if e := vine.Right(g, v); e != api.ErrGame || e1 != api.ErrGame || e2 != api.ErrGame {
				t.Error("change", i, "is", e, e1, e2)
			}
		}
	}
}

// spoilVine changes something of a tree, so that it may be anything.
func spoilVine(r *rand.Rand, v *api.Vine) {
	if len(v.Nodes) == 0 || r.Intn(20) == 0 {
		v.Nodes = append(v.Nodes, api.Node{Agent: r.Intn(4) - 2})
		return
	}
	n := &v.Nodes[r.Intn(len(v.Nodes))]
	switch r.Intn(9) {
	case 0:
		n.Agent = r.Intn(6) - 2
	case 1:
		n.Part = append(slices.Clone(n.Part), r.Intn(6)-1)
	case 2:
		n.Part = n.Part[len(n.Part)/2:]
	case 3:
		n.Yes, n.No = n.No, n.Yes
	case 4:
		n.Yes = r.Intn(len(v.Nodes)+2) - 1
	case 5:
		n.No = r.Intn(len(v.Nodes)+2) - 1
	case 6:
		n.Out = r.Intn(7) - 1
	case 7:
		n.Pay = append(slices.Clone(n.Pay), drawAny(r))
	default:
		other := &v.Nodes[r.Intn(len(v.Nodes))]
		*n, *other = *other, *n
	}
}

// P8.1: what is right is what the second reading takes, of trees of which something is changed.
func TestRightIsAsRead(t *testing.T) {
	r := rand.New(rand.NewSource(82))
	seen := map[api.Errno]int{}
	for range 20000 {
		g := drawGame(r, drawSort(r))
		v := drawVine(r, g)
		if e := vine.Right(g, v); e != api.OK {
			t.Fatal("drawn", v, e)
		}
		for range 1 + r.Intn(2) {
			spoilVine(r, &v)
		}
		wanted := api.OK
		if !(oracle{g, v}).isRight() {
			wanted = api.ErrVine
		}
		if e := vine.Right(g, v); e != wanted {
			t.Fatal(v, e, wanted)
		}
		seen[wanted]++
	}
	if seen[api.OK] < 1000 || seen[api.ErrVine] < 1000 {
		t.Error("seen", seen)
	}
}

// P8.2: an example by hand.
func TestPlayed(t *testing.T) {
	g, v := game(t, meal), dinner()
	for _, c := range []struct{ profile, path []int }{
		{[]int{0, 0}, []int{0, 1}}, {[]int{0, 1}, []int{0, 1}}, {[]int{1, 0}, []int{0, 2, 4, 5}},
		{[]int{2, 0}, []int{0, 2, 4, 6}}, {[]int{1, 1}, []int{0, 2, 3}}, {[]int{2, 1}, []int{0, 2, 3}},
	} {
		at, path, e := vine.Play(g, v, c.profile)
		if e != api.OK || at != c.path[len(c.path)-1] || !slices.Equal(path, c.path) {
			t.Error(c.profile, at, path, e)
		}
	}
	at, path, e := vine.Play(g, vineOf(end(1, 0, 0)), []int{2, 1})
	if e != api.OK || at != 0 || !slices.Equal(path, []int{0}) {
		t.Error("an end alone", at, path, e)
	}
}

// P8.2: of a profile that is none, and of a tree that is none, nothing is told.
func TestPlayErrors(t *testing.T) {
	g := game(t, meal)
	for _, profile := range [][]int{nil, {}, {0}, {0, 0, 0}, {3, 0}, {0, 2}, {-1, 0}, {0, -1}, {0, 1 << 62}, {-1 << 63, 0}, make([]int, 5000)} {
		for _, v := range []api.Vine{dinner(), vineOf(end(1, 0, 0)), {}, vineOf(end(2, 0, 0))} {
			at, path, e := vine.Play(g, v, profile)
			if e != api.ErrVine || at != 0 || path != nil {
				t.Error(profile, at, path, e)
			}
		}
	}
	wrongs := vineOf(end(2, 0, 0))
	if at, path, e := vine.Play(g, wrongs, []int{0, 0}); e != api.ErrVine || at != 0 || path != nil {
		t.Error("Play", at, path, e)
	}
	if r, e := vine.RuleOf(g, wrongs); e != api.ErrVine || r.Cells != nil {
		t.Error("RuleOf", r, e)
	}
}

// P8.2: the rule of a tree, by hand.
func TestRuleOfByHand(t *testing.T) {
	g := game(t, meal)
	wanted, _, _ := speech.ParseRule(g, "rule\ncell a a 0 1\ncell a b 0 1\ncell b a 1 0\ncell b b 1 0\ncell c a 0 1\ncell c b 1 0\n")
	if r := ruleOf(t, g, dinner()); !sameRule(r, wanted) {
		t.Error("rule", speech.PrintRule(g, r))
	}
	g.Pay = true
	v := dinner()
	v.Nodes[5].Pay, v.Nodes[1].Pay = []api.Frac{num(1, 2), num(-3, 1)}, []api.Frac{wrong(), num(7, 1)}
	r := ruleOf(t, g, v)
	if text := speech.PrintRule(g, r); text != "rule\ncell a a 0 1 0 7\ncell a b 0 1 0 7\ncell b a 1 0 1/2 -3\ncell b b 1 0 0 0\ncell c a 0 1 0 0\ncell c b 1 0 0 0\n" {
		t.Error("with payments", text)
	}
}

// P8.2: paths and rules are as the second reading has them.
func TestPlayedIsAsRead(t *testing.T) {
	r := rand.New(rand.NewSource(83))
	for range 2000 {
		g := drawGame(r, drawSort(r))
		v := drawVine(r, g)
		o, law := oracle{g, v}, ruleOf(t, g, v)
		for place, profile := range speech.Profiles(g) {
			at, path, e := vine.Play(g, v, profile)
			if wanted := o.path(profile); e != api.OK || !slices.Equal(path, wanted) || at != wanted[len(wanted)-1] {
				t.Fatal(v, profile, at, path, e)
			}
			lot := make([]int, len(g.Outs))
			lot[v.Nodes[at].Out] = 1
			if !sameCell(law.Cells[place], api.Cell{Lot: nums(lot...), Pay: v.Nodes[at].Pay}) {
				t.Fatal(v, profile, law.Cells[place])
			}
		}
		if len(law.Cells) != len(speech.Profiles(g)) || speech.PrintRule(g, law) == "" {
			t.Fatal("no rule of the game", law)
		}
	}
}

// said is all that is said on the way of a profile: who answers what to which question.
func said(v api.Vine, path, profile []int) []any {
	var out []any
	for _, at := range path {
		if n := v.Nodes[at]; n.Agent >= 0 {
			out = append(out, at, n.Agent, slices.Contains(n.Part, profile[n.Agent]))
		}
	}
	return out
}

// P8.9: on one path all profiles say the same, also those that have the kinds of several ones on it; what is said tells paths apart.
func TestSamePath(t *testing.T) {
	r := rand.New(rand.NewSource(84))
	same, different := 0, 0
	for range 1000 {
		g := drawGame(r, drawSort(r))
		v := drawVine(r, g)
		profiles := speech.Profiles(g)
		for range 20 {
			p, q := profiles[r.Intn(len(profiles))], profiles[r.Intn(len(profiles))]
			_, one, _ := vine.Play(g, v, p)
			_, other, _ := vine.Play(g, v, q)
			if !slices.Equal(one, other) {
				different++
				if slices.Equal(said(v, one, p), said(v, other, q)) {
					t.Fatal("other paths, but nothing else is said", v, p, q)
				}
				continue
			}
			same++
			mixed := slices.Clone(p)
			for a := range mixed {
				if r.Intn(2) == 0 {
					mixed[a] = q[a]
				}
			}
			_, third, _ := vine.Play(g, v, mixed)
			if !slices.Equal(said(v, one, p), said(v, other, q)) || !slices.Equal(one, third) {
				t.Fatal("something else is said", v, p, q)
			}
		}
	}
	if same < 1000 || different < 1000 {
		t.Error("same", same, "different", different)
	}
}

// Right is asked for numbers as they are fixed: what is not right is no payment.
func TestRightPays(t *testing.T) {
	g := game(t, meal)
	for _, f := range []api.Frac{{}, wrong(), {Neg: true, Den: []uint32{1}}, {Num: []uint32{5}}, num(0, 1)} {
		if e := vine.Right(g, vineOf(api.Node{Agent: -1, Pay: []api.Frac{num(0, 1), f}})); e != api.OK || frac.Sign(f) != 0 {
			t.Error(f, e)
		}
	}
}
