package vine_test

import (
	"math/rand"
	"slices"
	"testing"

	"unbent/api"
	"unbent/rule"
	"unbent/speech"
	"unbent/vine"
)

func law(t *testing.T, g api.Game, text string) api.Rule {
	t.Helper()
	r, e, line := speech.ParseRule(g, text)
	if e != api.OK {
		t.Fatalf("%q: error %d, line %d", text, e, line)
	}
	return r
}

// P8.4: a tree by hand. Ann's a and b have what they like, c likes both; bob is asked only if ann has c.
func TestGrowByHand(t *testing.T) {
	g := game(t, "game total\nouts soup fish cake\nagent ann\nkind a 1 0 0 3 0\nkind b 1 0 3 0 0\nkind c 1 0 1 1 1\nagent bob\nkind a 1 0 0 1 0\nkind b 1 0 1 0 0\n")
	r := law(t, g, "rule\ncell a a 0 1 0\ncell a b 0 1 0\ncell b a 1 0 0\ncell b b 1 0 0\ncell c a 0 1 0\ncell c b 1 0 0\n")
	v, stuck, ok, e := vine.Grow(g, r)
	// {a} is the first set of ann's kinds that is allowed: of {a} c has 1 at least, and 1 at most on the other side.
	wanted := vineOf(ask(0, []int{0}, 1, 2), end(1, 0, 0), ask(0, []int{1}, 3, 4), end(0, 0, 0), ask(1, []int{0}, 5, 6), end(1, 0, 0), end(0, 0, 0))
	if e != api.OK || !ok || stuck != nil || !sameVine(v, wanted) {
		t.Error(v, stuck, ok, e)
	}
	if isZero := v.Nodes[0].Pay == nil && v.Nodes[0].Out == 0 && v.Nodes[1].Part == nil && v.Nodes[1].Yes == 0; !isZero {
		t.Error("what has no meaning", v)
	}
}

// P8.4: a constant rule is one end, with its payments.
func TestGrowConstant(t *testing.T) {
	g, _ := clock(t, nums(1, 2), 2)
	r, _ := rule.Fixed(g, api.Cell{Lot: nums(0, 0, 1), Pay: []api.Frac{num(1, 2), num(-2, 1)}})
	v, stuck, ok, e := vine.Grow(g, r)
	wanted := vineOf(api.Node{Agent: -1, Out: 2, Pay: []api.Frac{num(1, 2), num(-2, 1)}})
	if e != api.OK || !ok || stuck != nil || !sameVine(v, wanted) {
		t.Error(v, stuck, ok, e)
	}
	r.Cells[3].Pay[0] = num(1, 3)
	v, stuck, ok, e = vine.Grow(g, r)
	if e != api.OK || ok || v.Nodes != nil || !sameLists(stuck, [][]int{{0, 1}, {1}}) || !vine.Stuck(g, r, stuck) {
		t.Error("another payment at one profile", v, stuck, ok, e)
	}
}

// P8.4: sets have the least kind, and come by their numbers; agents come in order.
func TestGrowOrder(t *testing.T) {
	g := game(t, "game total\nouts u v w\nagent ann\nkind a 1 0 0 0 0\nkind b 1 0 0 0 0\nkind c 1 0 0 0 0\nkind d 1 0 0 0 0\nagent bob\nkind a 1 0 0 0 1\nkind b 1 0 1 0 0\n")
	// Ann's kinds that are said have what bob likes, w or u, and would rather have w, too; the others have v, and like it most.
	bobs := func(kinds ...int) api.Rule {
		text := "rule\n"
		for _, profile := range speech.Profiles(g) {
			kind := &g.Agents[0].Kinds[profile[0]]
			lot := " 0 1 0"
			kind.Worth = nums(0, 3, 0)
			if slices.Contains(kinds, profile[0]) {
				lot, kind.Worth = []string{" 0 0 1", " 1 0 0"}[profile[1]], nums(1, 0, 2)
			}
			text += "cell " + kind.Name + " " + g.Agents[1].Kinds[profile[1]].Name + lot + "\n"
		}
		return law(t, g, text)
	}
	for _, c := range []struct {
		bobs  []int
		agent int
		part  []int
	}{
		{[]int{0}, 0, []int{0}}, {[]int{1}, 0, []int{0}}, {[]int{0, 1}, 0, []int{0, 1}}, {[]int{0, 2}, 0, []int{0, 2}}, {[]int{0, 3}, 0, []int{0, 3}}, {[]int{1, 2}, 0, []int{0}},
		{[]int{0, 1, 3}, 0, []int{0, 1, 3}}, {[]int{1, 2, 3}, 0, []int{0}}, {[]int{0, 1, 2, 3}, 1, []int{0}},
	} {
		v, _, ok, e := vine.Grow(g, bobs(c.bobs...))
		if e != api.OK || !ok || v.Nodes[0].Agent != c.agent || !slices.Equal(v.Nodes[0].Part, c.part) {
			t.Error(c, v, ok, e)
		}
	}
}

// P8.4: stuck is the first cell in the order of nodes; one that is stuck behind it is not told.
func TestGrowStuckInOrder(t *testing.T) {
	g := game(t, "game total\nouts u v\nagent ann\nkind a 1 0 0 1\nkind b 1 0 0 1\nkind c 1 0 0 1\nkind d 1 0 0 1\nagent bob\nkind a 1 0 0 0\nkind b 1 0 0 0\n")
	g.Agents[0].Kinds[2].Worth, g.Agents[0].Kinds[3].Worth = nums(0, 1), nums(0, 1)
	r := law(t, g, "rule\ncell a a 1 0\ncell a b 0 1\ncell b a 0 1\ncell b b 0 1\ncell c a 1 0\ncell c b 0 1\ncell d a 0 1\ncell d b 0 1\n")
	// Bob, who likes nothing, is asked first: behind his a ann's a and c have u, and would rather have v.
	v, stuck, ok, e := vine.Grow(g, r)
	if e != api.OK || ok || v.Nodes != nil || !sameLists(stuck, [][]int{{0, 1, 2, 3}, {0}}) || !vine.Stuck(g, r, stuck) {
		t.Error(v, stuck, ok, e)
	}
	// The other way round the stuck cell is behind his b, and a whole end stands ahead of it.
	r = law(t, g, "rule\ncell a a 0 1\ncell a b 1 0\ncell b a 0 1\ncell b b 0 1\ncell c a 0 1\ncell c b 1 0\ncell d a 0 1\ncell d b 0 1\n")
	v, stuck, ok, e = vine.Grow(g, r)
	if e != api.OK || ok || v.Nodes != nil || !sameLists(stuck, [][]int{{0, 1, 2, 3}, {1}}) || !vine.Stuck(g, r, stuck) {
		t.Error("the other way round", v, stuck, ok, e)
	}
}

// P8.4: errors, in their order, with nothing else.
func TestGrowErrors(t *testing.T) {
	g := game(t, meal)
	good := ruleOf(t, g, dinner())
	lots := g
	lots.Lots = true
	drawn := good
	drawn.Cells = slices.Clone(good.Cells)
	drawn.Cells[5] = api.Cell{Lot: []api.Frac{num(1, 2), num(1, 2)}, Pay: nums(0, 0)}
	bad := g
	bad.Outs = nil
	for i, c := range []struct {
		g api.Game
		r api.Rule
		e api.Errno
	}{
		{bad, good, api.ErrGame},
		{bad, api.Rule{}, api.ErrGame},
		{api.Game{}, api.Rule{}, api.ErrGame},
		{g, api.Rule{}, api.ErrRule},
		{g, api.Rule{Cells: good.Cells[:5]}, api.ErrRule},
		{g, api.Rule{Cells: slices.Concat(good.Cells, good.Cells[:1])}, api.ErrRule},
		{g, drawn, api.ErrRule},
		{lots, drawn, api.ErrRule},
		{lots, good, api.OK},
	} {
		v, stuck, ok, e := vine.Grow(c.g, c.r)
		if e != c.e || e != api.OK && (v.Nodes != nil || stuck != nil || ok) {
			t.Error("case", i, v, stuck, ok, e)
		}
		if c.e != api.OK && vine.Stuck(c.g, c.r, allOf(g)) {
			t.Error("stuck", i)
		}
	}
}

// P8.4: grown trees, and stuck cells, are those of the second reading.
func TestGrowIsAsRead(t *testing.T) {
	r := rand.New(rand.NewSource(87))
	whole, stopped := 0, 0
	for range 4000 {
		g := drawGame(r, drawSort(r))
		law := drawPlain(r, g)
		o := &grown{oracle: oracle{g: g}, r: law}
		wanted := o.grow(allOf(g))
		v, stuck, ok, e := vine.Grow(g, law)
		if e != api.OK || ok != wanted {
			t.Fatal("grown", ok, e, "wanted", wanted)
		}
		if !ok {
			stopped++
			if v.Nodes != nil || !sameLists(stuck, o.stuck) || !vine.Stuck(g, law, stuck) {
				t.Fatal("stuck", v, stuck, o.stuck)
			}
			continue
		}
		if len(v.Nodes) > 3 {
			whole++
		}
		if stuck != nil || !sameVine(v, o.v) {
			t.Fatal("another tree", v, o.v)
		}
	}
	if whole < 300 || stopped < 300 {
		t.Error("whole", whole, "stopped", stopped)
	}
}

// P8.8: what is grown is right, obvious and plays the rule.
func TestGrownIsObvious(t *testing.T) {
	r := rand.New(rand.NewSource(88))
	seen := 0
	for range 6000 {
		g := drawGame(r, drawSort(r))
		law := drawPlain(r, g)
		v, _, ok, _ := vine.Grow(g, law)
		if !ok {
			continue
		}
		if len(v.Nodes) > 3 {
			seen++
		}
		d, obvious := vine.Obvious(g, v)
		if vine.Right(g, v) != api.OK || !obvious || !sameRule(ruleOf(t, g, v), law) {
			t.Fatal("grown", v, d)
		}
	}
	if seen < 300 {
		t.Error("seen", seen)
	}
}

// joined is the tree of a question and the trees behind its answers.
func joined(agent int, part []int, yes, no api.Vine) api.Vine {
	out := vineOf(ask(agent, part, 1, 1+len(yes.Nodes)))
	for _, v := range []api.Vine{yes, no} {
		shift := len(out.Nodes)
		for _, n := range v.Nodes {
			n.Yes, n.No = n.Yes+shift, n.No+shift
			out.Nodes = append(out.Nodes, n)
		}
	}
	return out
}

// allVines is all trees of a cell that play a rule; also those that go on asking where the rule gives the same. Of the two sides of a question one is asked for.
func (o *grown) allVines(cell [][]int) []api.Vine {
	var out []api.Vine
	if o.isConstant(cell) {
		c := o.cells(cell)[0]
		out = append(out, vineOf(api.Node{Agent: -1, Out: outOf(c), Pay: c.Pay}))
	}
	for agent, kinds := range cell {
		for _, part := range subsets(kinds) {
			if len(part) == 0 || len(part) == len(kinds) || part[0] != kinds[0] {
				continue
			}
			nos := o.allVines(with(cell, agent, without(kinds, part)))
			for _, yes := range o.allVines(with(cell, agent, part)) {
				for _, no := range nos {
					out = append(out, joined(agent, part, yes, no))
				}
			}
		}
	}
	return out
}

// P8.8: of all trees that play a rule one is obvious, just if Grow tells one.
func TestGrownIsAll(t *testing.T) {
	r := rand.New(rand.NewSource(89))
	found, none, trees := 0, 0, 0
	for i := range 1500 {
		kinds := [][]int{{2}, {3}, {4}, {2, 2}, {3, 2}, {2, 3}, {2, 2, 2}}[r.Intn(7)]
		if i%100 == 0 {
			kinds = []int{4, 2}
		}
		g := drawGame(r, kinds)
		o := &grown{oracle: oracle{g: g}, r: drawPlain(r, g)}
		obvious := false
		for _, v := range o.allVines(allOf(g)) {
			trees++
			if len((oracle{g, v}).doubts()) == 0 {
				obvious = true
				break
			}
		}
		if _, _, ok, e := vine.Grow(g, o.r); e != api.OK || ok != obvious {
			t.Fatal("grown", ok, "but obvious", obvious, o.r)
		}
		if obvious {
			found++
		} else {
			none++
		}
	}
	if found < 200 || none < 200 || trees < 10000 {
		t.Error("found", found, "none", none, "of trees", trees)
	}
}

// allCells is all cells of a game.
func allCells(g api.Game) [][][]int {
	out := [][][]int{nil}
	for _, kinds := range allOf(g) {
		var longer [][][]int
		for _, cell := range out {
			for _, some := range subsets(kinds)[1:] {
				longer = append(longer, append(slices.Clone(cell), some))
			}
		}
		out = longer
	}
	return out
}

// P8.5, P8.8: which cells are stuck is what the second reading says; if one is, no tree is obvious; if none is, one is.
func TestStuckIsAsRead(t *testing.T) {
	r := rand.New(rand.NewSource(90))
	seen := map[bool]int{}
	for range 1000 {
		g := drawGame(r, sorts[r.Intn(10)])
		law := drawPlain(r, g)
		o := &grown{oracle: oracle{g: g}, r: law}
		any := false
		for _, cell := range allCells(g) {
			got := vine.Stuck(g, law, cell)
			if got != o.isStuck(cell) {
				t.Fatal("cell", cell, got)
			}
			any = any || got
			seen[got]++
		}
		if _, _, ok, _ := vine.Grow(g, law); ok == any {
			t.Fatal("grown", ok, "and stuck", any)
		}
	}
	if seen[true] < 1000 || seen[false] < 1000 {
		t.Error("seen", seen)
	}
}

// P8.5: what is no cell is not stuck.
func TestStuckOfNoCell(t *testing.T) {
	g := game(t, "game total\nouts u v\nagent ann\nkind a 1 0 0 1\nkind b 1 0 0 1\nkind c 1 0 0 1\nagent bob\nkind a 1 0 0 0\nkind b 1 0 0 0\n")
	r := law(t, g, "rule\ncell a a 1 0\ncell a b 1 0\ncell b a 0 1\ncell b b 0 1\ncell c a 0 1\ncell c b 0 1\n")
	for i, cell := range [][][]int{nil, {}, {{0, 1, 2}}, {{0, 1, 2}, {}}, {{0, 1, 2}, nil}, {{}, {0, 1}}, {{0, 1, 2}, {0, 1}, {0}}, {{0, 1, 2}, {0, 1}, {}},
		{{1, 0}, {0}}, {{0, 0, 1}, {0}}, {{0, 1, 3}, {0}}, {{-1, 0, 1}, {0}}, {{0, 1}, {2}}, {{0, 1}, {0, 1, 2}}, {{0, 1 << 62}, {0}}, {{0, 1}, {-1 << 63}}, {make([]int, 5000), {0}}, make([][]int, 5000)} {
		if vine.Stuck(g, r, cell) {
			t.Error("no cell", i)
		}
	}
	for i, c := range []struct {
		cell  [][]int
		stuck bool
	}{{[][]int{{0, 1, 2}, {0}}, true}, {[][]int{{0, 2}, {1}}, true}, {[][]int{{0, 1}, {0, 1}}, false}, {[][]int{{1, 2}, {0}}, false}, {[][]int{{0}, {1}}, false}, {[][]int{{0}, {0, 1}}, false}} {
		if vine.Stuck(g, r, c.cell) != c.stuck {
			t.Error("cell", i)
		}
	}
}

// A split that is allowed stays so in lesser cells.
func TestAllowedStays(t *testing.T) {
	r := rand.New(rand.NewSource(91))
	seen := 0
	for range 300 {
		g := drawGame(r, sorts[r.Intn(10)])
		o := &grown{oracle: oracle{g: g}, r: drawPlain(r, g)}
		cells := allCells(g)
		for range 20 {
			cell, lesser := cells[r.Intn(len(cells))], cells[r.Intn(len(cells))]
			agent := r.Intn(len(cell))
			isIn := true
			for a := range cell {
				isIn = isIn && len(without(lesser[a], cell[a])) == 0
			}
			part := subsets(cell[agent])[r.Intn(1<<len(cell[agent]))]
			rest := without(cell[agent], part)
			partly, restly := without(lesser[agent], rest), without(lesser[agent], part)
			if !isIn || len(part) == 0 || len(rest) == 0 || len(partly) == 0 || len(restly) == 0 || !o.isAllowed(cell, agent, part) {
				continue
			}
			seen++
			if !o.isAllowed(lesser, agent, partly) || vine.Stuck(g, o.r, lesser) {
				t.Fatal("no more allowed", cell, lesser, part)
			}
		}
	}
	if seen < 50 {
		t.Error("seen", seen)
	}
}
