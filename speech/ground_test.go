package speech_test

import (
	"math/rand"
	"strings"
	"testing"

	"unbent/api"
	"unbent/frac"
	"unbent/speech"
)

// drawAny is any value at all, right or not.
func drawAny(r *rand.Rand) api.Frac {
	list := func() []uint32 {
		var out []uint32
		for range r.Intn(4) {
			out = append(out, uint32(r.Intn(3)))
		}
		return out
	}
	return api.Frac{Neg: r.Intn(2) == 0, Num: list(), Den: list()}
}

func drawAll(r *rand.Rand, most int) []api.Frac {
	var out []api.Frac
	for range r.Intn(most) {
		out = append(out, drawAny(r))
	}
	return out
}

func drawInts(r *rand.Rand) []int {
	var out []int
	for range r.Intn(6) {
		out = append(out, r.Intn(6)-1)
	}
	return out
}

// spoil changes something in a game, so that it may be anything.
func spoil(r *rand.Rand, g *api.Game) {
	names := []string{"", "a", "B", "\n", "a b", "\xff", strings.Repeat("x", 13)}
	agent := &g.Agents[r.Intn(len(g.Agents))]
	if len(agent.Kinds) == 0 {
		agent.Kinds = append(agent.Kinds, api.Kind{})
	}
	kind := &agent.Kinds[r.Intn(len(agent.Kinds))]
	switch r.Intn(12) {
	case 0:
		agent.Name = names[r.Intn(len(names))]
	case 1:
		kind.Name = names[r.Intn(len(names))]
	case 2:
		g.Outs = append(g.Outs, names[r.Intn(len(names))])
	case 3:
		g.Outs = nil
	case 4:
		agent.Kinds = nil
	case 5:
		agent.Kinds = append(agent.Kinds, *kind)
	case 6:
		kind.Worth = drawAll(r, 8)
	case 7:
		kind.Weight, kind.Alone = drawAny(r), drawAny(r)
	case 8:
		g.Aim = r.Intn(9) - 4
	case 9:
		g.Agents = append(g.Agents, api.Agent{Name: agent.Name, Kinds: agent.Kinds})
	default:
		n := api.Need{Kind: r.Intn(9) - 1, Agent: r.Intn(6) - 1, Other: r.Intn(6) - 1, Bound: drawAny(r), Outs: drawInts(r), Swap: drawInts(r)}
		g.Needs = append(g.Needs, n)
	}
}

// P1: no function panics, whatever it is handed; what is told is right.
func TestAnything(t *testing.T) {
	r := rand.New(rand.NewSource(38))
	for range 5000 {
		g := drawGame(r)
		rule := drawRule(r, g)
		for range r.Intn(4) {
			spoil(r, &g)
		}
		for range r.Intn(3) {
			rule.Cells[r.Intn(len(rule.Cells))] = api.Cell{Lot: drawAll(r, 7), Pay: drawAll(r, 5)}
		}
		right := speech.Right(g) == api.OK
		if (speech.Print(g) != "") != right || (speech.Profiles(g) != nil) != right || !speech.Same(g, g) {
			t.Fatal("game", right, g)
		}
		profile := drawInts(r)
		rightAll(t, []api.Frac{speech.Weight(g, profile)})
		if at := speech.Index(g, profile); at >= len(speech.Profiles(g)) || at < -1 {
			t.Fatal("Index", at)
		}
		text := speech.PrintRule(g, rule)
		if _, e, _ := speech.ParseRule(g, text); (e == api.OK) != (text != "") {
			t.Fatal("rule", e, text)
		}
	}
}

func rightAll(t *testing.T, l []api.Frac) {
	t.Helper()
	for _, f := range l {
		if !frac.Right(f) {
			t.Fatal("not right:", f)
		}
	}
}

// numbersOf is all lists of numbers of a game, and those that stand alone, one by one.
func numbersOf(g api.Game) [][]api.Frac {
	var out [][]api.Frac
	for _, a := range g.Agents {
		for _, k := range a.Kinds {
			out = append(out, k.Worth, []api.Frac{k.Weight}, []api.Frac{k.Alone})
		}
	}
	for _, n := range g.Needs {
		out = append(out, []api.Frac{n.Bound})
	}
	return out
}

// P1: every fraction that is told without an error is right, also the bounds of needs that have none.
func TestToldRight(t *testing.T) {
	g := game(t, every)
	for _, l := range numbersOf(g) {
		rightAll(t, l)
	}
	g.Pay = false
	r, e, _ := speech.ParseRule(g, "rule\ncell low low 1 0 0 0\ncell low mid 1 0 0 0\ncell low high 1 0 0 0\ncell high low 1 0 0 0\ncell high mid 1 0 0 0\ncell high high 1 0 0 0\n")
	if e != api.OK {
		t.Fatal("ParseRule", e)
	}
	for _, c := range r.Cells {
		rightAll(t, c.Lot)
		rightAll(t, c.Pay)
	}
}

// spoilMemory overwrites all the memory that lists hold, and tells whether they held any word that had been overwritten already.
func spoilMemory(lists ...[]api.Frac) bool {
	twice := false
	for _, l := range lists {
		for _, f := range l[:cap(l)] {
			for _, words := range [][]uint32{f.Num, f.Den} {
				words = words[:cap(words)]
				for i := range words {
					twice = twice || words[i] == 123456789
					words[i] = 123456789
				}
			}
		}
	}
	return twice
}

// No two parts of a game or rule that is read share memory.
func TestMemoryOfTexts(t *testing.T) {
	g := game(t, every)
	if spoilMemory(numbersOf(g)...) {
		t.Error("numbers of a game share memory")
	}
	r := rand.New(rand.NewSource(39))
	for range 100 {
		g := drawGame(r)
		rule, e, _ := speech.ParseRule(g, speech.PrintRule(g, drawRule(r, g)))
		if e != api.OK {
			t.Fatal("ParseRule", e)
		}
		var lists [][]api.Frac
		for _, c := range rule.Cells {
			lists = append(lists, c.Lot, c.Pay)
		}
		if spoilMemory(lists...) {
			t.Fatal("numbers of a rule share memory")
		}
	}
}

// No function changes what it is handed, and no result shares memory with it.
func TestMemory(t *testing.T) {
	r := rand.New(rand.NewSource(40))
	for range 100 {
		g := drawGame(r)
		text := speech.Print(g)
		rule := drawRule(r, g)
		said := speech.PrintRule(g, rule)
		profiles := speech.Profiles(g)
		for _, profile := range profiles {
			spoilMemory([]api.Frac{speech.Weight(g, profile)})
		}
		for _, profile := range profiles {
			for i := range profile[:cap(profile)] {
				profile[:cap(profile)][i] = -5
			}
		}
		again, _, _ := speech.ParseRule(g, said)
		for _, c := range again.Cells {
			spoilMemory(c.Lot, c.Pay)
		}
		if speech.Print(g) != text || speech.PrintRule(g, rule) != said || speech.Profiles(g)[0][0] != 0 {
			t.Fatal("changed:", text)
		}
	}
}

// Profiles share no memory with one another.
func TestMemoryOfProfiles(t *testing.T) {
	all := speech.Profiles(game(t, every))
	for i := range all {
		all[i] = all[i][:cap(all[i])]
		for j := range all[i] {
			if all[i][j] == -5 {
				t.Fatal("profiles share memory")
			}
			all[i][j] = -5
		}
	}
}
