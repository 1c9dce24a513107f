package seek_test

import (
	"math/rand"
	"slices"
	"testing"

	"unbent/api"
	"unbent/frac"
	"unbent/plane"
	"unbent/seek"
	"unbent/speech"
)

// drawAny is any value at all, right or not.
func drawAny(r *rand.Rand) api.Frac {
	list := func() []uint32 {
		var out []uint32
		for range r.Intn(3) {
			out = append(out, uint32(r.Intn(3)))
		}
		return out
	}
	return api.Frac{Neg: r.Intn(2) == 0, Num: list(), Den: list()}
}

func drawAll(r *rand.Rand, most int) []api.Frac {
	var out []api.Frac
	for range r.Intn(most) {
		out = append(out, drawAny(r))
	}
	return out
}

func drawInts(r *rand.Rand) []int {
	var out []int
	for range r.Intn(6) {
		out = append(out, r.Intn(6)-1)
	}
	return out
}

// spoil changes something in a game, so that it may be anything.
func spoil(r *rand.Rand, g *api.Game) {
	if len(g.Agents) == 0 {
		return
	}
	agent := &g.Agents[r.Intn(len(g.Agents))]
	switch r.Intn(8) {
	case 0:
		g.Agents = nil
	case 1:
		agent.Kinds = nil
	case 2:
		agent.Kinds = append(agent.Kinds, api.Kind{Worth: drawAll(r, 7)})
	case 3:
		g.Outs = append(g.Outs, "new")
	case 4:
		g.Aim = r.Intn(6) - 1
	case 5:
		g.Needs = append(g.Needs, api.Need{Kind: r.Intn(9) - 1, Agent: r.Intn(6) - 1, Other: r.Intn(6) - 1, Bound: drawAny(r), Outs: drawInts(r), Swap: drawInts(r)})
	default:
		for k := range agent.Kinds {
			agent.Kinds[k].Weight, agent.Kinds[k].Alone = drawAny(r), drawAny(r)
			for o := range agent.Kinds[k].Worth {
				agent.Kinds[k].Worth[o] = drawAny(r)
			}
		}
	}
}

func drawCert(r *rand.Rand) api.Cert {
	return api.Cert{Kind: r.Intn(5) - 1, X: drawAll(r, 30), Y: drawAll(r, 50), Ray: drawAll(r, 30)}
}

func drawAnswer(r *rand.Rand) api.Answer {
	a := api.Answer{Kind: r.Intn(5) - 1, Cert: drawCert(r)}
	a.Tree = api.Tree{Kind: r.Intn(5) - 1, X: drawAll(r, 30), Ray: drawAll(r, 30)}
	for range r.Intn(4) {
		a.Tree.Cases = append(a.Tree.Cases, api.Case{Var: r.Intn(5) - 1, Zero: r.Intn(6) - 1, One: r.Intn(6) - 1, Cert: drawCert(r)})
	}
	for range r.Intn(4) {
		a.Rule.Cells = append(a.Rule.Cells, api.Cell{Lot: drawAll(r, 5), Pay: drawAll(r, 5)})
	}
	return a
}

func programNumbers(p api.Prog) []api.Frac {
	out := slices.Clone(p.Goal)
	for _, row := range p.Rows {
		out = append(append(out, row.A...), row.B)
	}
	return out
}

func answerNumbers(a api.Answer) []api.Frac {
	out := slices.Concat(a.Cert.X, a.Cert.Y, a.Cert.Ray, a.Tree.X, a.Tree.Ray)
	for _, c := range a.Tree.Cases {
		out = slices.Concat(out, c.Cert.X, c.Cert.Y, c.Cert.Ray)
	}
	for _, c := range a.Rule.Cells {
		out = slices.Concat(out, c.Lot, c.Pay)
	}
	return out
}

func gameNumbers(g api.Game) []api.Frac {
	var out []api.Frac
	for _, a := range g.Agents {
		for _, k := range a.Kinds {
			out = append(append(out, k.Weight, k.Alone), k.Worth...)
		}
	}
	for _, n := range g.Needs {
		out = append(out, n.Bound)
	}
	return out
}

// tellAll calls all functions of the package: the numbers that they tell.
func tellAll(g api.Game, r api.Rule, x []api.Frac, a api.Answer) []api.Frac {
	seek.Findable(g)
	seek.Wholes(g)
	seek.Judge(g, a)
	p, _ := seek.Model(g)
	b, _ := seek.Find(g)
	h, c, _ := seek.Shrink(g)
	out := slices.Concat(programNumbers(p), answerNumbers(b), gameNumbers(h), answerNumbers(c), seek.PointOf(g, r))
	return append(out, answerNumbers(api.Answer{Rule: seek.RuleOf(g, x)})...)
}

// P1: no function panics, whatever it is handed; what is told is right.
func TestAnything(t *testing.T) {
	r := rand.New(rand.NewSource(21))
	for range 1000 {
		g := drawGame(r, size{6, 4, 2}, 2)
		law, a := drawRule(r, g), drawAnswer(r)
		for range r.Intn(3) {
			spoil(r, &g)
		}
		if r.Intn(4) == 0 {
			law.Cells[r.Intn(len(law.Cells))] = api.Cell{Lot: drawAll(r, 7), Pay: drawAll(r, 5)}
		}
		for _, f := range tellAll(g, law, drawAll(r, 40), a) {
			if !frac.Right(f) {
				t.Fatal("not right:", f)
			}
		}
		if seek.Judge(g, a) {
			t.Error("any answer is taken:", a)
		}
	}
}

// spoilNumbers puts a wrong number in the place of each 0.
func spoilNumbers(g api.Game) {
	fix := func(f *api.Frac) {
		if frac.Sign(*f) == 0 {
			*f = wrong()
		}
	}
	for _, a := range g.Agents {
		for k := range a.Kinds {
			fix(&a.Kinds[k].Weight)
			fix(&a.Kinds[k].Alone)
			for o := range a.Kinds[k].Worth {
				fix(&a.Kinds[k].Worth[o])
			}
		}
	}
	for i := range g.Needs {
		fix(&g.Needs[i].Bound)
	}
}

// Numbers that are not right are 0, wherever they stand.
func TestFix(t *testing.T) {
	r := rand.New(rand.NewSource(22))
	for range 100 {
		g := drawNone(r)
		p, e := seek.Model(g)
		law := drawRule(r, g)
		x := seek.PointOf(g, law)
		a, _ := seek.Find(g)
		h, b, f := seek.Shrink(g)
		spoilNumbers(g)
		for _, c := range law.Cells {
			for o := range c.Lot {
				if frac.Sign(c.Lot[o]) == 0 {
					c.Lot[o] = wrong()
				}
			}
		}
		q, e2 := seek.Model(g)
		a2, _ := seek.Find(g)
		h2, b2, f2 := seek.Shrink(g)
		if e != e2 || f != f2 || !areRightly(programNumbers(q), programNumbers(p)) || !sameAnswer(a2, a) || !speech.Same(h2, h) || !sameAnswer(b2, b) {
			t.Fatal("another answer of", speech.Print(g))
		}
		if !areRightly(seek.PointOf(g, law), x) {
			t.Fatal("another point", law)
		}
	}
}

// Long numbers are gone through in the end, and what is found of them is right.
func TestLong(t *testing.T) {
	r := rand.New(rand.NewSource(23))
	for _, head := range []string{"game pay lots total", "game lots worst", "game pay paid", "game worst"} {
		g := game(t, head+"\nouts a b\nagent x\nkind k 1 0 0 0\nkind l 1 0 0 0\nagent y\nkind k 1 0 0 0\nkind l 1 0 0 0\npart\n")
		for a := range g.Agents {
			for k := range g.Agents[a].Kinds {
				g.Agents[a].Kinds[k].Worth = []api.Frac{long(100 + r.Intn(100)), long(100 + r.Intn(100))}
			}
		}
		if a := found(t, g); a.Kind != api.Best || !isGood(g, a.Rule) {
			t.Error(head, a.Kind)
		}
	}
	g := game(t, "game pay lots total\nouts a b\nagent x\nkind k 1 0 0 0\nkind l 1 0 0 0\n")
	g.Agents[0].Kinds[0].Worth[0] = long(api.MaxWords - 1)
	p, e := seek.Model(g)
	if e != api.OK || !isRightly(p.Rows[2].A[0], long(api.MaxWords-1)) || !isRightly(p.Rows[2].A[3], frac.Neg(long(api.MaxWords-1))) {
		t.Error("a long worth", e)
	}
	if plane.Right(p) != api.OK {
		t.Error("its program")
	}
}

// overwrite writes over all the memory of numbers, and tells whether some had been written over already.
func overwrite(l []api.Frac) bool {
	twice := false
	for _, f := range l {
		for _, words := range [][]uint32{f.Num[:cap(f.Num)], f.Den[:cap(f.Den)]} {
			for i := range words {
				twice = twice || words[i] == 123456789
				words[i] = 123456789
			}
		}
	}
	return twice
}

func overwriteInts(l []int) bool {
	twice := slices.Contains(l, -5)
	for i := range l {
		l[i] = -5
	}
	return twice
}

// overwriteAnswer writes over all that an answer has.
func overwriteAnswer(a api.Answer) bool {
	shared := overwrite(answerNumbers(a))
	lists := [][]api.Frac{a.Cert.X, a.Cert.Y, a.Cert.Ray, a.Tree.X, a.Tree.Ray}
	for _, c := range a.Rule.Cells {
		lists = append(lists, c.Lot, c.Pay)
	}
	for _, c := range a.Tree.Cases {
		lists = append(lists, c.Cert.X, c.Cert.Y, c.Cert.Ray)
	}
	return marked(lists) || shared
}

// marked writes over lists, and tells whether two of them are one.
func marked(lists [][]api.Frac) bool {
	twice := false
	for _, l := range lists {
		for i := range l {
			twice = twice || l[i].Neg && len(l[i].Den) == 0
			l[i] = api.Frac{Neg: true}
		}
	}
	return twice
}

func overwriteGame(g api.Game) bool {
	shared := overwrite(gameNumbers(g))
	var lists [][]api.Frac
	for _, a := range g.Agents {
		for _, k := range a.Kinds {
			lists = append(lists, k.Worth)
		}
	}
	for _, n := range g.Needs {
		shared = overwriteInts(n.Outs) || shared
		shared = overwriteInts(n.Swap) || shared
	}
	for i := range g.Outs {
		g.Outs[i] = "spoilt"
	}
	for i := range g.Agents {
		g.Agents[i].Name = "spoilt"
		for k := range g.Agents[i].Kinds {
			g.Agents[i].Kinds[k].Name = "spoilt"
		}
	}
	return marked(lists) || shared
}

// No function changes what it is handed, and no result shares memory with it or with another part of it.
func TestMemory(t *testing.T) {
	r := rand.New(rand.NewSource(24))
	shrunk := 0
	for i := range 200 {
		g := drawNone(r)
		if i%2 == 0 {
			g = drawEnvy(r)
		}
		if i == 0 { // of which nothing can go
			g = game(t, "game total\nouts a b\nagent x\nkind low 1 1 2 1\nkind high 1 1 1 2\nagent y\nkind k 1 0 0 0\norder x a\nenvy x y b a\n")
		}
		g.Outs = slices.Clone(g.Outs)
		law := drawRule(r, g)
		x := seek.PointOf(g, law)
		text, ruled, point := speech.Print(g), speech.PrintRule(g, law), slices.Clone(x)
		p, _ := seek.Model(g)
		a, _ := seek.Find(g)
		h, b, e := seek.Shrink(g)
		cells := api.Answer{Rule: seek.RuleOf(g, x)}
		other := seek.PointOf(g, law)
		if e == api.OK {
			shrunk++
		}
		lists := [][]api.Frac{p.Goal}
		for _, row := range p.Rows {
			lists = append(lists, row.A)
		}
		shared := overwrite(programNumbers(p))
		shared = marked(lists) || shared
		shared = overwriteAnswer(a) || shared
		shared = overwriteAnswer(b) || shared
		shared = overwriteGame(h) || shared
		shared = overwriteAnswer(cells) || shared
		shared = overwrite(other) || shared
		if shared {
			t.Fatal("parts of results share memory")
		}
		if speech.Print(g) != text || speech.PrintRule(g, law) != ruled || !areRightly(x, point) {
			t.Fatal("changed:", text, ruled)
		}
		if again, _ := seek.Find(g); !seek.Judge(g, again) {
			t.Fatal("what is told hangs on what was told")
		}
	}
	if shrunk < 40 {
		t.Error("shrunk", shrunk)
	}
}
