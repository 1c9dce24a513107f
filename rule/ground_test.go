package rule_test

import (
	"math/rand"
	"slices"
	"testing"

	"unbent/api"
	"unbent/frac"
	"unbent/rule"
	"unbent/speech"
)

// drawAny is any value at all, right or not.
func drawAny(r *rand.Rand) api.Frac {
	list := func() []uint32 {
		var out []uint32
		for range r.Intn(3) {
			out = append(out, uint32(r.Intn(3)))
		}
		return out
	}
	return api.Frac{Neg: r.Intn(2) == 0, Num: list(), Den: list()}
}

func drawAll(r *rand.Rand, most int) []api.Frac {
	var out []api.Frac
	for range r.Intn(most) {
		out = append(out, drawAny(r))
	}
	return out
}

func drawInts(r *rand.Rand) []int {
	var out []int
	for range r.Intn(6) {
		out = append(out, r.Intn(6)-1)
	}
	return out
}

// spoil changes something in a game, so that it may be anything.
func spoil(r *rand.Rand, g *api.Game) {
	if len(g.Agents) == 0 {
		return
	}
	agent := &g.Agents[r.Intn(len(g.Agents))]
	switch r.Intn(8) {
	case 0:
		g.Agents = nil
	case 1:
		agent.Kinds = nil
	case 2:
		agent.Kinds = append(agent.Kinds, api.Kind{Worth: drawAll(r, 7)})
	case 3:
		g.Outs = append(g.Outs, "new")
	case 4:
		g.Aim = r.Intn(6) - 1
	case 5:
		g.Needs = append(g.Needs, api.Need{Kind: r.Intn(9) - 1, Agent: r.Intn(6) - 1, Other: r.Intn(6) - 1, Bound: drawAny(r), Outs: drawInts(r), Swap: drawInts(r)})
	default:
		for k := range agent.Kinds {
			for o := range agent.Kinds[k].Worth {
				agent.Kinds[k].Worth[o] = drawAny(r)
			}
		}
	}
}

func checkRight(t *testing.T, l ...api.Frac) {
	t.Helper()
	for _, f := range l {
		if !frac.Right(f) {
			t.Fatal("not right:", f)
		}
	}
}

// tellAll calls all functions of the package: what they tell, as numbers of which all are to be right.
func tellAll(g api.Game, a, b api.Rule, c api.Cell, w api.Frac, log []api.Seen, ints []int) []api.Frac {
	ints = append(ints, 0, 0)
	out := []api.Frac{rule.Worth(g, a, ints[0], ints[1], ints), rule.Aim(g, a)}
	rule.Plain(g, a)
	rule.Meets(g, a)
	rule.Group(g, a)
	rule.Draw(c.Lot, w)
	if rule.Right(g, a) == api.OK {
		lie, _ := rule.Truthful(g, a)
		out = append(out, lie.Gain)
	}
	lies, _ := rule.Audit(g, a, log)
	for _, lie := range append(lies, rule.Gains(g, a)...) {
		out = append(out, lie.Gain)
	}
	mix, _ := rule.Mix(g, a, b, w)
	fixed, _ := rule.Fixed(g, c)
	for _, cell := range append(mix.Cells, fixed.Cells...) {
		out = append(append(out, cell.Lot...), cell.Pay...)
	}
	return out
}

// P1: no function panics, whatever it is handed; what is told is right.
func TestAnything(t *testing.T) {
	r := rand.New(rand.NewSource(51))
	for range 3000 {
		g := drawGame(r)
		a, b := drawRule(r, g), drawRule(r, g)
		c, log := drawCell(r, g), drawLog(r, g, 5)
		for range r.Intn(3) {
			spoil(r, &g)
		}
		switch r.Intn(8) {
		case 0:
			a.Cells[r.Intn(len(a.Cells))] = api.Cell{Lot: drawAll(r, 7), Pay: drawAll(r, 5)}
		case 1:
			b.Cells = b.Cells[1:]
		case 2:
			c = api.Cell{Lot: drawAll(r, 7), Pay: drawAll(r, 5)}
		case 3:
			log = append(log, api.Seen{Profile: drawInts(r), Count: r.Intn(5) - 1})
		}
		checkRight(t, tellAll(g, a, b, c, drawAny(r), log, drawInts(r))...)
	}
}

// The errors that Right tells are those of chapter 3, whatever game and rule.
func TestRightIsOfSpeech(t *testing.T) {
	r := rand.New(rand.NewSource(52))
	seen := map[api.Errno]int{}
	for range 2000 {
		g := drawGame(r)
		law := drawRule(r, g)
		if r.Intn(2) == 0 {
			spoil(r, &g)
		}
		if r.Intn(2) == 0 {
			law.Cells[r.Intn(len(law.Cells))].Lot = drawAll(r, 7)
		}
		wanted := api.OK
		if speech.Right(g) != api.OK {
			wanted = api.ErrGame
		} else if speech.PrintRule(g, law) == "" {
			wanted = api.ErrRule
		}
		if e := rule.Right(g, law); e != wanted {
			t.Fatal("Right", e, wanted)
		}
		seen[wanted]++
	}
	if len(seen) != 3 {
		t.Error("errors", seen)
	}
}

// Numbers that are not right are 0, wherever they stand.
func TestFix(t *testing.T) {
	g := game(t, "game pay lots total\nouts a b\nagent x\nkind k 0 0 0 2\nkind l 1 0 3 0\npart\nbound 0\n")
	r := law(t, g, "rule\ncell k 0 1 0\ncell l 1 0 0\n")
	h, s := g, law(t, g, "rule\ncell k 0 1 0\ncell l 1 0 0\n")
	h.Needs = []api.Need{{Kind: api.NeedPart}, {Kind: api.NeedBound, Bound: wrong()}}
	h.Agents = []api.Agent{{Name: "x", Kinds: slices.Clone(g.Agents[0].Kinds)}}
	h.Agents[0].Kinds[0].Weight, h.Agents[0].Kinds[0].Alone = wrong(), wrong()
	h.Agents[0].Kinds[0].Worth = []api.Frac{wrong(), num(2, 1)}
	s.Cells[0].Lot[0], s.Cells[0].Pay[0] = wrong(), wrong()
	for _, aim := range []int{api.AimTotal, api.AimWorst, api.AimPaid} {
		g.Aim, h.Aim = aim, aim
		if !isRightly(rule.Aim(h, s), rule.Aim(g, r)) {
			t.Error("Aim", aim)
		}
	}
	if at, ok := rule.Meets(h, s); at != -1 || !ok || rule.Right(h, s) != api.OK {
		t.Error("Meets", at, ok)
	}
	if !isRightly(rule.Worth(h, s, 0, 0, []int{0}), num(2, 1)) || !isRightly(rule.Worth(h, s, 0, 0, []int{1}), num(0, 1)) {
		t.Error("Worth")
	}
	if got, e := rule.Fixed(h, s.Cells[0]); e != api.OK || !sameCells(got.Cells[:1], r.Cells[:1]) {
		t.Error("Fixed", got, e)
	}
	if got, e := rule.Mix(h, s, s, wrong()); e != api.OK || !sameCells(got.Cells, r.Cells) {
		t.Error("Mix", got, e)
	}
}

// long is a number of so many words above.
func long(words int) api.Frac {
	num := make([]uint32, words)
	num[0], num[words-1] = 1, 1
	return api.Frac{Num: num, Den: []uint32{1}}
}

// What is told is exact as long as it is not too long, however long its parts are; what is longer is 0.
func TestLong(t *testing.T) {
	g := game(t, "game pay lots total\nouts a b c\nagent x\nkind k 1 0 0 0 0\nkind l 0 0 0 0 0\n")
	most := long(api.MaxWords - 1)
	g.Agents[0].Kinds[0].Worth = []api.Frac{most, frac.Sub(num(1, 1), most), num(0, 1)}
	part := num(1, 1<<40) // of most too long to be told
	rest := frac.Sub(num(1, 1), frac.Add(part, part))
	r := law(t, g, "rule\ncell k 1 0 0 0\ncell l 1 0 0 0\n")
	r.Cells[0].Lot = []api.Frac{part, part, rest}
	r.Cells[1].Pay[0] = frac.Sub(most, num(1, 1))
	if got := rule.Worth(g, r, 0, 0, []int{0}); !isRightly(got, part) {
		t.Error("Worth of long parts", frac.Print(got))
	}
	if got := rule.Worth(g, r, 0, 0, []int{1}); !isRightly(got, num(1, 1)) {
		t.Error("Worth of a long payment")
	}
	wanted := api.Lie{Agent: 0, Kind: 0, Told: 1, Profile: []int{0}, Gain: frac.Sub(num(1, 1), part)}
	if lie, ok := rule.Truthful(g, r); ok || !sameLie(lie, wanted) {
		t.Error("Truthful", lie.Kind, lie.Told, ok)
	}
	r.Cells[0].Lot = []api.Frac{part, num(0, 1), frac.Sub(num(1, 1), part)}
	if got := rule.Worth(g, r, 0, 0, []int{0}); !isRightly(got, num(0, 1)) {
		t.Error("Worth that is too long")
	}
	if !isRightly(rule.Aim(g, r), num(0, 1)) {
		t.Error("an aim that is too long")
	}
}

// A great game of long numbers is gone through in the end.
func TestManyLong(t *testing.T) {
	r := rand.New(rand.NewSource(53))
	g := game(t, "game pay total\nouts a b\nagent x\nkind k 1 0 0 0\nkind l 1 0 0 0\nagent y\nkind k 1 0 0 0\nkind l 1 0 0 0\nagent z\nkind k 1 0 0 0\nkind l 1 0 0 0\n")
	for a := range g.Agents {
		for k := range g.Agents[a].Kinds {
			g.Agents[a].Kinds[k].Worth = []api.Frac{long(300 + r.Intn(300)), frac.Neg(long(300 + r.Intn(300)))}
		}
	}
	law := drawRule(r, g)
	o := oracle{g, law}
	if got, ok := rule.Group(g, law); ok && !o.better(got) {
		t.Error("Group", got)
	}
	checkRight(t, tellAll(g, law, law, law.Cells[0], num(1, 2), drawLog(r, g, 5), []int{0, 0, 0})...)
}

// overwrite writes over all the memory of numbers, and tells whether some had been written over already.
func overwrite(l []api.Frac) bool {
	twice := false
	for _, f := range l[:cap(l)] {
		for _, words := range [][]uint32{f.Num[:cap(f.Num)], f.Den[:cap(f.Den)]} {
			for i := range words {
				twice = twice || words[i] == 123456789
				words[i] = 123456789
			}
		}
	}
	return twice
}

func overwriteInts(l []int) bool {
	l = l[:cap(l)]
	twice := slices.Contains(l, -5)
	for i := range l {
		l[i] = -5
	}
	return twice
}

// spoilResults writes over all that functions tell of game, rule and log, and tells whether any of it shares memory.
func spoilResults(g api.Game, a, b api.Rule, log []api.Seen) bool {
	lie, _ := rule.Truthful(g, a)
	audit, _ := rule.Audit(g, a, log)
	mix, _ := rule.Mix(g, a, b, num(1, 1))
	fixed, _ := rule.Fixed(g, a.Cells[0])
	joint, _ := rule.Group(g, a)
	shared := overwrite([]api.Frac{rule.Aim(g, a), rule.Worth(g, a, 0, 0, make([]int, len(g.Agents)))})
	for _, l := range slices.Concat([]api.Lie{lie}, audit, rule.Gains(g, a)) {
		shared = overwrite([]api.Frac{l.Gain}) || shared
		shared = overwriteInts(l.Profile) || shared
	}
	for _, c := range slices.Concat(mix.Cells, fixed.Cells) {
		shared = overwrite(c.Lot) || shared
		shared = overwrite(c.Pay) || shared
	}
	for _, l := range [][]int{joint.Group, joint.Told, joint.Profile} {
		shared = overwriteInts(l) || shared
	}
	return shared
}

// No function changes what it is handed, and no result shares memory with it or with another part of it.
func TestMemory(t *testing.T) {
	r := rand.New(rand.NewSource(54))
	for range 300 {
		g := drawGame(r)
		a, b := drawRule(r, g), drawRule(r, g)
		log := drawLog(r, g, 5)
		var profiles [][]int
		for i := range log {
			log[i].Profile = slices.Clone(log[i].Profile)
			profiles = append(profiles, slices.Clone(log[i].Profile))
		}
		text, one, two := speech.Print(g), speech.PrintRule(g, a), speech.PrintRule(g, b)
		if spoilResults(g, a, b, log) {
			t.Fatal("parts of results share memory")
		}
		if speech.Print(g) != text || speech.PrintRule(g, a) != one || speech.PrintRule(g, b) != two {
			t.Fatal("changed:", text, one, two)
		}
		for i, seen := range log {
			if !slices.Equal(seen.Profile, profiles[i]) {
				t.Fatal("a log is changed")
			}
		}
	}
}
