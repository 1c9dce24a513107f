package seek_test

import (
	"math/big"
	"math/rand"
	"testing"

	"unbent/api"
	"unbent/frac"
	"unbent/plane"
	"unbent/rule"
	"unbent/seek"
	"unbent/speech"
)

// Texts of the game of the chapter's examples.
const lone = "\nouts none all\nagent ann\nkind low 1 0 0 0\nkind high 1 0 0 3\n"

// The examples of the chapter and of the document.
func TestExamples(t *testing.T) {
	for _, c := range []struct {
		text string
		kind int
		aim  int
	}{
		{"game lots total" + lone, api.Best, 3},
		{"game total" + lone, api.Best, 3},
		{"game pay lots paid" + lone + "part\n", api.Best, 3},
		{"game pay paid" + lone + "part\n", api.Best, 3},
		{"game pay lots paid" + lone, api.Endless, 0},
		{"game pay paid" + lone, api.Endless, 0},
		{"game pay lots paid" + lone + "even\n", api.Best, 0},
		{"game pay paid" + lone + "even\n", api.Best, 0},
	} {
		g := game(t, c.text)
		a := found(t, g)
		if a.Kind != c.kind {
			t.Errorf("%s: %d", c.text, a.Kind)
		}
		if c.kind == api.Best && !isRightly(rule.Aim(g, a.Rule), num(c.aim, 1)) {
			t.Errorf("%s: aim %s", c.text, frac.Print(rule.Aim(g, a.Rule)))
		}
	}
	g := game(t, "game pay paid"+lone+"part\n")
	if high := found(t, g).Rule.Cells[1]; !areRightly(high.Lot, nums(0, 1)) || !areRightly(high.Pay, nums(3)) {
		t.Error("all for high, who pays 3:", high)
	}
}

// checkForm looks whether an answer has what its kind has, and nothing else.
func checkForm(t *testing.T, g api.Game, a api.Answer) {
	t.Helper()
	kind, x := a.Cert.Kind, a.Cert.X
	if !g.Lots {
		kind, x = a.Tree.Kind, a.Tree.X
	}
	var cells []api.Cell
	if kind == api.Best || kind == api.Endless {
		cells = seek.RuleOf(g, x).Cells
	}
	other := sameTree(a.Tree, api.Tree{})
	if !g.Lots {
		other = sameCert(a.Cert, api.Cert{})
	}
	if kind != a.Kind || !other || !sameCells(a.Rule.Cells, cells) {
		t.Errorf("%sanswer %v", speech.Print(g), a)
	}
}

// moved is a point with so many parts of a ray added.
func moved(x, ray []api.Frac, parts int) []api.Frac {
	var out []api.Frac
	for v := range x {
		out = append(out, frac.Add(x[v], frac.Mul(num(parts, 1), ray[v])))
	}
	return out
}

// checkEndless looks whether rules get better for ever along an answer's ray.
func checkEndless(t *testing.T, g api.Game, a api.Answer) {
	t.Helper()
	x, ray := a.Cert.X, a.Cert.Ray
	if !g.Lots {
		x, ray = a.Tree.X, a.Tree.Ray
	}
	last := seek.RuleOf(g, x)
	for _, parts := range []int{1, 2, 1000, 1 << 40} {
		next := seek.RuleOf(g, moved(x, ray, parts))
		if !isGood(g, next) {
			t.Fatalf("%s%d parts are not good", speech.Print(g), parts)
		}
		if g.Aim != api.AimWorst && frac.Cmp(rule.Aim(g, next), rule.Aim(g, last)) <= 0 {
			t.Fatalf("%s%d parts are not better", speech.Print(g), parts)
		}
		last = next
	}
	if frac.Cmp(rule.Aim(g, last), num(1<<30, 1)) < 0 {
		t.Errorf("%saim %s", speech.Print(g), frac.Print(rule.Aim(g, last)))
	}
}

// P5.3 and P5.6: what is found is judged to be right, is good, and no good rule is better.
func TestFound(t *testing.T) {
	r := rand.New(rand.NewSource(4))
	kinds := map[int]int{}
	for range 500 {
		g := drawGame(r, size{6, 4, 3}, 3)
		a := found(t, g)
		checkForm(t, g, a)
		kinds[a.Kind]++
		if a.Kind != api.None && !isGood(g, a.Rule) {
			t.Fatalf("%s%sis not good", speech.Print(g), speech.PrintRule(g, a.Rule))
		}
		if a.Kind == api.Endless {
			checkEndless(t, g, a)
			continue
		}
		for range 5 {
			if other := drawGood(r, g); isGood(g, other) && (a.Kind == api.None || frac.Cmp(rule.Aim(g, other), rule.Aim(g, a.Rule)) > 0) {
				t.Fatalf("%skind %d, but\n%sis good and better than\n%s", speech.Print(g), a.Kind, speech.PrintRule(g, other), speech.PrintRule(g, a.Rule))
			}
		}
	}
	if kinds[api.Best] < 100 || kinds[api.None] < 60 || kinds[api.Endless] < 40 {
		t.Error("kinds", kinds)
	}
}

// allPlain goes through all rules without lotteries and payments.
func allPlain(g api.Game, yield func(r api.Rule) bool) {
	places, outs := len(speech.Profiles(g)), len(g.Outs)
	at := make([]int, places)
	for {
		var r api.Rule
		for _, o := range at {
			r.Cells = append(r.Cells, api.Cell{Lot: sure(outs, o), Pay: nums(make([]int, len(g.Agents))...)})
		}
		if !yield(r) {
			return
		}
		i := 0
		for i < places && at[i] == outs-1 {
			at[i] = 0
			i++
		}
		if i == places {
			return
		}
		at[i]++
	}
}

// P5.6: without lotteries and payments the best of all rules is found.
func TestFoundAmongAll(t *testing.T) {
	r := rand.New(rand.NewSource(5))
	kinds := map[int]int{}
	for range 120 {
		g := drawGame(r, size{6, 3, 3}, 4)
		g.Pay, g.Lots = false, false
		a := found(t, g)
		kinds[a.Kind]++
		var best api.Rule
		for law := range func(yield func(api.Rule) bool) { allPlain(g, yield) } {
			if isGood(g, law) && (best.Cells == nil || frac.Cmp(rule.Aim(g, law), rule.Aim(g, best)) > 0) {
				best = law
			}
		}
		if (best.Cells == nil) != (a.Kind == api.None) || best.Cells != nil && (a.Kind != api.Best || frac.Cmp(rule.Aim(g, a.Rule), rule.Aim(g, best)) != 0) {
			t.Fatalf("%skind %d\n%sbut the best is\n%s", speech.Print(g), a.Kind, speech.PrintRule(g, a.Rule), speech.PrintRule(g, best))
		}
	}
	if kinds[api.Best] < 30 || kinds[api.None] < 20 {
		t.Error("kinds", kinds)
	}
}

// P5.6: without lotteries, but with payments, the best of the best payments of each choice of outcomes is found.
func TestFoundAmongChoices(t *testing.T) {
	r := rand.New(rand.NewSource(6))
	kinds := map[int]int{}
	for range 60 {
		g := drawGame(r, size{4, 3, 3}, 3)
		g.Pay, g.Lots = true, false
		a := found(t, g)
		kinds[a.Kind]++
		p, _ := seek.Model(g)
		kind := api.None
		var most api.Frac
		for law := range func(yield func(api.Rule) bool) { allPlain(g, yield) } {
			var bits []int
			for _, c := range law.Cells {
				for _, f := range c.Lot {
					bits = append(bits, frac.Sign(f))
				}
			}
			q, _ := plane.Fixed(p, seek.Wholes(g), bits)
			switch c, e := plane.Solve(q); {
			case e != api.OK:
				t.Fatal(e)
			case c.Kind == api.Endless:
				kind = api.Endless
			case c.Kind == api.Best && kind == api.None, c.Kind == api.Best && kind == api.Best && frac.Cmp(plane.Value(p, c.X), most) > 0:
				kind, most = api.Best, plane.Value(p, c.X)
			}
		}
		if kind != a.Kind || kind == api.Best && !isRightly(rule.Aim(g, a.Rule), most) {
			t.Fatalf("%skind %d, wanted %d of %s", speech.Print(g), a.Kind, kind, frac.Print(most))
		}
	}
	if kinds[api.Best] < 15 || kinds[api.None] < 5 || kinds[api.Endless] < 5 {
		t.Error("kinds", kinds)
	}
}

// With payments and no needs the greatest total worth is that of what all want most: Clarke's payments make it truthful.
func TestFoundTotal(t *testing.T) {
	r := rand.New(rand.NewSource(7))
	for range 60 {
		g := drawGame(r, size{8, 4, 4}, 3)
		g.Pay, g.Aim, g.Needs = true, api.AimTotal, nil
		if seek.Findable(g) != api.OK {
			continue
		}
		var total []api.Frac
		for _, profile := range speech.Profiles(g) {
			sums := nums(make([]int, len(g.Outs))...)
			for i, k := range profile {
				for o, f := range g.Agents[i].Kinds[k].Worth {
					sums[o] = frac.Add(sums[o], f)
				}
			}
			total = append(total, frac.Mul(speech.Weight(g, profile), sums[frac.Most(sums)]))
		}
		if a := found(t, g); a.Kind != api.Best || !isRightly(rule.Aim(g, a.Rule), frac.Sum(total)) {
			t.Errorf("%saim %s, wanted %s", speech.Print(g), frac.Print(rule.Aim(g, a.Rule)), frac.Print(frac.Sum(total)))
		}
	}
}

// What takes most of one buyer is a price that is one of its worths.
func TestFoundPrice(t *testing.T) {
	for _, c := range []struct {
		text string
		aim  api.Frac
	}{
		{"kind a 1 0 0 1\nkind b 1 0 0 2\n", num(2, 1)},
		{"kind a 2 0 0 1\nkind b 1 0 0 2\n", num(3, 1)},
		{"kind a 1 0 0 2\nkind b 1 0 0 3\nkind c 1/2 0 0 7\n", num(5, 1)},
		{"kind a 1 0 0 2\nkind b 1 0 0 3\nkind c 1 0 0 8/3\n", num(6, 1)},
		{"kind a 1 0 0 2\nkind b 0 0 0 9\n", num(2, 1)},
	} {
		for _, head := range []string{"game pay lots paid", "game pay paid"} {
			g := game(t, head+"\nouts none all\nagent ann\n"+c.text+"part\n")
			if a := found(t, g); a.Kind != api.Best || !isRightly(rule.Aim(g, a.Rule), c.aim) {
				t.Errorf("%s: %s", c.text, frac.Print(rule.Aim(g, a.Rule)))
			}
		}
	}
}

// Lotteries may be better than anything that is sure: two want one thing, and the least is to have most.
func TestFoundWorst(t *testing.T) {
	text := " worst\nouts ann bob\nagent ann\nkind any 1 0 2 0\nagent bob\nkind any 1 0 0 1\n"
	g := game(t, "game lots"+text)
	if a := found(t, g); !isRightly(rule.Aim(g, a.Rule), num(2, 3)) || !areRightly(a.Rule.Cells[0].Lot, []api.Frac{num(1, 3), num(2, 3)}) {
		t.Error("by lot", a.Rule)
	}
	g = game(t, "game"+text)
	if a := found(t, g); a.Kind != api.Best || !isRightly(rule.Aim(g, a.Rule), num(0, 1)) {
		t.Error("for sure", a.Rule)
	}
	g = game(t, "game pay"+text+"even\n")
	if a := found(t, g); !isRightly(rule.Aim(g, a.Rule), num(1, 1)) {
		t.Error("with payments", a.Rule)
	}
	g = game(t, "game pay"+text+"bound 1/4\neven\n")
	if a := found(t, g); !isRightly(rule.Aim(g, a.Rule), num(1, 4)) {
		t.Error("with small payments", a.Rule)
	}
	g = game(t, "game pay"+text)
	if a := found(t, g); a.Kind != api.Endless {
		t.Error("who pays is paid by nobody", a.Kind)
	}
}

// P5.3: of the same game the same answer is told each time.
func TestFoundAgain(t *testing.T) {
	r := rand.New(rand.NewSource(8))
	for range 40 {
		g := drawGame(r, size{6, 4, 1}, 4)
		if a, b := found(t, g), found(t, g); !sameAnswer(a, b) {
			t.Errorf("%s%v\n%v", speech.Print(g), a, b)
		}
	}
}

// P5.3: a point's numbers are not long, as those of a corner are not.
func TestFoundCorner(t *testing.T) {
	r := rand.New(rand.NewSource(9))
	draw := func() api.Frac { return num(int(r.Uint32())-1<<31, 1+int(r.Uint32()>>1)) }
	for range 10 {
		g := drawGame(r, size{8, 5, 1}, 3)
		for _, a := range g.Agents {
			for k := range a.Kinds {
				for o := range a.Kinds[k].Worth {
					a.Kinds[k].Worth[o] = draw()
				}
				a.Kinds[k].Weight, a.Kinds[k].Alone = num(int(r.Uint32()), 1+int(r.Uint32()>>1)), draw()
			}
		}
		if seek.Findable(g) != api.OK {
			continue
		}
		a := found(t, g)
		for _, l := range [][]api.Frac{a.Cert.X, a.Cert.Ray, a.Tree.X, a.Tree.Ray} {
			den := big.NewInt(1)
			for _, f := range l {
				common := new(big.Int).GCD(nil, nil, den, value(f).Denom())
				den.Mul(den, new(big.Int).Div(value(f).Denom(), common))
			}
			for _, f := range l {
				num := new(big.Rat).Mul(value(f), new(big.Rat).SetInt(den)).Num()
				if den.BitLen() > 32*1100 || num.BitLen() > 32*1100 {
					t.Error("bits", den.BitLen(), num.BitLen())
				}
			}
		}
	}
}

// P5.3: games whose programs are just small enough to be solved, and others.
func TestFindable(t *testing.T) {
	all := []int{api.NeedPart, api.NeedBudget, api.NeedEven, api.NeedBound}
	worst := func(g api.Game) api.Game {
		g.Aim = api.AimWorst
		return g
	}
	plain := func(g api.Game) api.Game {
		g.Lots = false
		return g
	}
	huge := wide(6, 2, 2, 2, 2)
	huge.Pay, huge.Aim = true, api.AimWorst
	for i, c := range []struct {
		g    api.Game
		told api.Errno
	}{
		{wide(6, 4, 3), api.OK},                             // 72 variables
		{worst(wide(6, 4, 3)), api.ErrSize},                 // 73
		{needy(worst(wide(2, 2, 2, 2)), all, 3, 2), api.OK}, // 200 rows
		{needy(worst(wide(2, 2, 2, 2)), all, 3, 3), api.ErrSize},
		{plain(wide(3, 2, 2, 2)), api.OK},                   // 24 whole variables
		{plain(wide(3, 3, 3)), api.ErrSize},                 // 27
		{plain(wide(2, 4, 4)), api.ErrSize},                 // 32
		{needy(plain(wide(3, 2, 2, 2)), all, 2, 0), api.OK}, // 152 rows, and 48 for whole variables
		{needy(plain(wide(3, 2, 2, 2)), all, 2, 1), api.ErrSize},
		{needy(wide(3, 2, 2, 2), all, 2, 1), api.OK},
		{huge, api.ErrSize},
		{wide(7, 2), api.ErrGame},
		{wide(2, 4, 4, 2), api.ErrGame},
		{api.Game{}, api.ErrGame},
	} {
		if e := seek.Findable(c.g); e != c.told {
			t.Errorf("%d: Findable %d, wanted %d", i, e, c.told)
		}
		a, e := seek.Find(c.g)
		if e != c.told || e == api.OK && !seek.Judge(c.g, a) || e != api.OK && !noAnswer(a) {
			t.Errorf("%d: Find %d, wanted %d", i, e, c.told)
		}
	}
}

// An answer whose numbers are too long to be told is none.
func TestFindLong(t *testing.T) {
	text := "game lots total\nouts a b\nagent x\nkind k 1 0 0 0\nagent y\nkind k 1 0 0 0\npart\n"
	for _, c := range []struct {
		words int
		told  api.Errno
	}{{1000, api.OK}, {3000, api.ErrSize}} {
		g := game(t, text)
		x, y := &g.Agents[0].Kinds[0], &g.Agents[1].Kinds[0]
		x.Worth[0], x.Alone = long(c.words), long(c.words-1) // the chance of a is a fraction of both
		y.Worth[1] = frac.Add(x.Worth[0], num(1, 1))
		a, e := seek.Find(g)
		if seek.Findable(g) != api.OK || e != c.told || e != api.OK && !noAnswer(a) {
			t.Error(c.words, e)
		}
		if chance, _ := frac.Div(x.Alone, x.Worth[0]); e == api.OK && !isRightly(a.Rule.Cells[0].Lot[0], chance) {
			t.Error("the chance of a", a.Rule)
		}
	}
}
