package speech_test

import (
	"math/rand"
	"strings"
	"testing"

	"unbent/api"
	"unbent/frac"
	"unbent/speech"
)

// P3.2: Parse of Print is the same game, ParseRule of PrintRule the same rule.
func TestBack(t *testing.T) {
	r := rand.New(rand.NewSource(33))
	for range 400 {
		g := drawGame(r)
		text := speech.Print(g)
		back := game(t, text)
		if !speech.Same(g, back) || speech.Right(back) != api.OK || speech.Print(back) != text {
			t.Fatal("Parse of Print:", text)
		}
		rule := drawRule(r, g)
		said := speech.PrintRule(g, rule)
		again, e, line := speech.ParseRule(g, said)
		if e != api.OK || line != 0 || len(again.Cells) != len(rule.Cells) || speech.PrintRule(g, again) != said {
			t.Fatal("ParseRule of PrintRule:", e, line, said)
		}
		for i, c := range again.Cells {
			if !sameNumbers(c.Lot, rule.Cells[i].Lot) || !alike(c.Pay, rule.Cells[i].Pay) {
				t.Fatal("cell", i, "of", said)
			}
		}
	}
}

// alike reports whether two lists are the same numbers, Fix of each.
func alike(a, b []api.Frac) bool {
	if len(a) != len(b) {
		return false
	}
	for i := range a {
		if frac.Cmp(a[i], b[i]) != 0 {
			return false
		}
	}
	return true
}

// swapped is a text with one of its bytes, words or lines changed, left out or said twice.
func swapped(r *rand.Rand, text, sep string) string {
	parts := strings.Split(text, sep)
	i, j := r.Intn(len(parts)), r.Intn(len(parts))
	switch r.Intn(4) {
	case 0:
		parts[i] = parts[j]
	case 1:
		parts[i], parts[j] = parts[j], parts[i]
	case 2:
		parts = append(parts[:i], parts[i+1:]...)
	case 3:
		parts[i] += sep + parts[j]
	}
	return strings.Join(parts, sep)
}

// P3.2: whatever text is taken, its game is right, and Print of it is read as the same game; so with rules. Of others there is an error, and the number of a line.
func TestWhateverText(t *testing.T) {
	r := rand.New(rand.NewSource(34))
	taken, refused := 0, map[api.Errno]int{}
	for i := range 30000 {
		text := []string{first, every}[i%2]
		for range 1 + r.Intn(2) {
			text = swapped(r, text, []string{"", " ", "\n"}[r.Intn(3)])
		}
		g, e, line := speech.Parse(text)
		if e != api.OK {
			refused[e]++
			if line < 1 || line > strings.Count(text, "\n")+2 || len(g.Agents) > 0 {
				t.Fatalf("%q: error %d, line %d", text, e, line)
			}
			continue
		}
		taken++
		if line != 0 || speech.Right(g) != api.OK || speech.Print(g) != strings.TrimSuffix(text, "\n")+"\n" || !speech.Same(g, game(t, speech.Print(g))) {
			t.Fatalf("%q is taken: line %d, %v", text, line, g)
		}
	}
	if taken < 1000 || len(refused) != 8 {
		t.Error("texts taken, and refused by each error:", taken, refused)
	}
}

func TestWhateverRule(t *testing.T) {
	r := rand.New(rand.NewSource(35))
	taken, refused := 0, map[api.Errno]int{}
	for i := range 20000 {
		g := game(t, []string{first, every}[i%2])
		text := speech.PrintRule(g, drawRule(r, g))
		for range 1 + r.Intn(2) {
			text = swapped(r, text, []string{"", " ", "\n"}[r.Intn(3)])
		}
		rule, e, line := speech.ParseRule(g, text)
		if e != api.OK {
			refused[e]++
			if line < 1 || line > strings.Count(text, "\n")+2 || len(rule.Cells) > 0 {
				t.Fatalf("%q: error %d, line %d", text, e, line)
			}
			continue
		}
		taken++
		if line != 0 || speech.PrintRule(g, rule) != strings.TrimSuffix(text, "\n")+"\n" {
			t.Fatalf("%q is taken: line %d, %v", text, line, rule)
		}
	}
	if taken < 1000 || len(refused) != 6 {
		t.Error("texts taken, and refused by each error:", taken, refused)
	}
}

// Numbers of 40 digits are read back, one of 41 is not.
func TestDigits(t *testing.T) {
	g := game(t, first)
	long, _ := frac.Parse("-" + strings.Repeat("9", 40) + "/" + strings.Repeat("9", 39) + "8")
	g.Agents[0].Kinds[0].Worth[1] = long
	if !speech.Same(g, game(t, speech.Print(g))) {
		t.Error("40 digits")
	}
	ten := num(10, 1)
	g.Agents[0].Kinds[0].Worth[1] = frac.Mul(long, ten)
	checkParse(t, speech.Print(g), api.ErrNumber, 4)
}

// Numbers that are not right are written as 0, and are the same as 0.
func TestFix(t *testing.T) {
	g := game(t, first)
	g.Agents[0].Kinds[0].Alone, g.Agents[0].Kinds[0].Worth[0] = wrong(), wrong()
	g.Needs[0].Bound = wrong()
	if speech.Print(g) != first || !speech.Same(g, game(t, first)) {
		t.Error("numbers that are not right")
	}
}

// Same looks at every field.
func TestSame(t *testing.T) {
	for i, change := range []func(g *api.Game){
		func(g *api.Game) { g.Pay = false },
		func(g *api.Game) { g.Lots = false },
		func(g *api.Game) { g.Aim = api.AimPaid },
		func(g *api.Game) { g.Outs[1] = "x" },
		func(g *api.Game) { g.Outs = g.Outs[:3] },
		func(g *api.Game) { g.Outs[0], g.Outs[1] = g.Outs[1], g.Outs[0] },
		func(g *api.Game) { g.Agents = g.Agents[:1] },
		func(g *api.Game) { g.Agents[0], g.Agents[1] = g.Agents[1], g.Agents[0] },
		func(g *api.Game) { g.Agents[1].Name = "x" },
		func(g *api.Game) { g.Agents[1].Kinds = g.Agents[1].Kinds[:2] },
		func(g *api.Game) { g.Agents[1].Kinds[2].Name = "x" },
		func(g *api.Game) { g.Agents[1].Kinds[2].Weight = num(1, 7) },
		func(g *api.Game) { g.Agents[1].Kinds[2].Alone = num(1, 7) },
		func(g *api.Game) { g.Agents[1].Kinds[2].Worth[3] = num(1, 7) },
		func(g *api.Game) { g.Agents[1].Kinds[2].Worth[3] = wrong() },
		func(g *api.Game) { g.Agents[1].Kinds[2].Worth = g.Agents[1].Kinds[2].Worth[:3] },
		func(g *api.Game) { g.Needs = g.Needs[:7] },
		func(g *api.Game) { g.Needs[0], g.Needs[1] = g.Needs[1], g.Needs[0] },
		func(g *api.Game) { g.Needs[0].Kind = 9 },
		func(g *api.Game) { g.Needs[0].Agent = 1 },
		func(g *api.Game) { g.Needs[0].Other = 1 },
		func(g *api.Game) { g.Needs[0].Bound = num(1, 7) },
		func(g *api.Game) { g.Needs[3].Bound = wrong() },
		func(g *api.Game) { g.Needs[4].Swap[0] = 9 },
		func(g *api.Game) { g.Needs[4].Swap = g.Needs[4].Swap[:3] },
		func(g *api.Game) { g.Needs[5].Outs[1] = 9 },
		func(g *api.Game) { g.Needs[5].Outs = g.Needs[5].Outs[:1] },
	} {
		g, h := game(t, every), game(t, every)
		change(&h)
		if !speech.Same(g, g) || !speech.Same(h, h) || speech.Same(g, h) || speech.Same(h, g) {
			t.Error("change", i)
		}
	}
	empty := api.Game{Agents: []api.Agent{}, Outs: []string{}, Needs: []api.Need{}}
	if !speech.Same(api.Game{}, empty) {
		t.Error("empty lists")
	}
	some := api.Game{Agents: []api.Agent{{}}, Needs: []api.Need{{}}}
	none := api.Game{Agents: []api.Agent{{Kinds: []api.Kind{}}}, Needs: []api.Need{{Outs: []int{}, Swap: []int{}, Bound: wrong()}}}
	if !speech.Same(some, none) {
		t.Error("empty lists of agents and needs")
	}
}
