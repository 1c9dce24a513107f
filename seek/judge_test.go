package seek_test

import (
	"math/rand"
	"slices"
	"testing"

	"unbent/api"
	"unbent/frac"
	"unbent/plane"
	"unbent/seek"
	"unbent/speech"
)

// changes are answers like one, each with something changed so that it is none.
func changes(g api.Game, a api.Answer) map[string]api.Answer {
	out := map[string]api.Answer{}
	put := func(what string, change func(a *api.Answer)) {
		b := copied(a)
		change(&b)
		out[what] = b
	}
	for kind := range 5 {
		if kind != a.Kind {
			put("another kind", func(b *api.Answer) { b.Kind = kind })
			put("another kind of proof", func(b *api.Answer) { b.Cert.Kind, b.Tree.Kind = kind, kind })
		}
	}
	put("a cell more", func(b *api.Answer) { b.Rule.Cells = append(b.Rule.Cells, api.Cell{}) })
	if a.Kind == api.None {
		put("a rule", func(b *api.Answer) { b.Rule = seek.RuleOf(g, nil) })
		return out
	}
	put("no rule", func(b *api.Answer) { b.Rule = api.Rule{} })
	put("a cell less", func(b *api.Answer) { b.Rule.Cells = b.Rule.Cells[1:] })
	put("another chance", func(b *api.Answer) { b.Rule.Cells[0].Lot[0] = frac.Add(b.Rule.Cells[0].Lot[0], num(1, 7)) })
	put("a chance more", func(b *api.Answer) { b.Rule.Cells[0].Lot = append(b.Rule.Cells[0].Lot, num(0, 1)) })
	put("a chance less", func(b *api.Answer) { b.Rule.Cells[0].Lot = b.Rule.Cells[0].Lot[1:] })
	put("another payment", func(b *api.Answer) { b.Rule.Cells[0].Pay[0] = frac.Sub(b.Rule.Cells[0].Pay[0], num(1, 7)) })
	put("a payment more", func(b *api.Answer) { b.Rule.Cells[0].Pay = append(b.Rule.Cells[0].Pay, num(0, 1)) })
	put("no payments", func(b *api.Answer) { b.Rule.Cells[0].Pay = nil })
	put("another point", func(b *api.Answer) {
		for _, x := range [][]api.Frac{b.Cert.X, b.Tree.X} {
			if len(x) > 0 {
				x[0] = frac.Add(x[0], num(1, 7))
			}
		}
		b.Rule.Cells[0].Lot[0] = frac.Add(b.Rule.Cells[0].Lot[0], num(1, 7))
	})
	return out
}

// copied is an answer in memory of its own.
func copied(a api.Answer) api.Answer {
	cert := func(c api.Cert) api.Cert {
		c.X, c.Y, c.Ray = slices.Clone(c.X), slices.Clone(c.Y), slices.Clone(c.Ray)
		return c
	}
	out := a
	out.Cert, out.Tree.X, out.Tree.Ray = cert(a.Cert), slices.Clone(a.Tree.X), slices.Clone(a.Tree.Ray)
	out.Tree.Cases, out.Rule.Cells = nil, nil
	for _, c := range a.Tree.Cases {
		c.Cert = cert(c.Cert)
		out.Tree.Cases = append(out.Tree.Cases, c)
	}
	for _, c := range a.Rule.Cells {
		out.Rule.Cells = append(out.Rule.Cells, api.Cell{Lot: slices.Clone(c.Lot), Pay: slices.Clone(c.Pay)})
	}
	return out
}

// P5.4: an answer is taken just if proof, kind and rule are as they are to be.
func TestJudge(t *testing.T) {
	r := rand.New(rand.NewSource(11))
	for range 80 {
		g := drawGame(r, size{4, 3, 3}, 3)
		a := found(t, g)
		for what, b := range changes(g, a) {
			if seek.Judge(g, b) {
				t.Errorf("%s%s is taken: %v", speech.Print(g), what, b)
			}
		}
		b := copied(a) // what is not looked at
		junk := api.Cert{Kind: 9, X: []api.Frac{wrong()}, Y: nums(1)}
		if g.Lots {
			b.Tree = api.Tree{Kind: 9, X: nums(1), Cases: []api.Case{{Var: -1, Cert: junk}}}
		} else {
			b.Cert = junk
		}
		if !seek.Judge(g, b) {
			t.Errorf("%sthe other proof is looked at", speech.Print(g))
		}
	}
}

// Numbers of the rule that are not right are 0.
func TestJudgeFix(t *testing.T) {
	for _, head := range []string{"game pay lots total", "game total"} {
		g := game(t, head+lone)
		a := found(t, g)
		for _, c := range a.Rule.Cells {
			for _, l := range [][]api.Frac{c.Lot, c.Pay, a.Cert.X, a.Tree.X} {
				for i, f := range l {
					if frac.Sign(f) == 0 {
						l[i] = wrong()
					}
				}
			}
		}
		if !seek.Judge(g, a) {
			t.Error(head, a)
		}
	}
}

// An answer for one game is none for others.
func TestJudgeOtherGame(t *testing.T) {
	g := game(t, "game pay lots paid"+lone+"part\n")
	a := found(t, g)
	other := game(t, "game pay lots paid\nouts none all\nagent ann\nkind low 1 0 0 0\nkind high 1 0 0 4\npart\n")
	if !seek.Judge(g, a) || seek.Judge(other, a) {
		t.Error("another worth")
	}
	for _, text := range []string{"game pay lots paid" + lone, "game pay lots paid" + lone + "part\nbound 2\n", "game pay paid" + lone + "part\n", "game lots paid" + lone + "part\n"} {
		if seek.Judge(game(t, text), a) {
			t.Error("taken:", text)
		}
	}
	g.Aim = 4
	if seek.Judge(g, a) || seek.Judge(api.Game{}, a) || seek.Judge(api.Game{}, api.Answer{}) {
		t.Error("a game that is not right")
	}
}

// P5.4: also games that are too large to be found are judged, as long as they have a program.
func TestJudgeLarge(t *testing.T) {
	g := wide(6, 2, 2, 2, 2) // 96 variables; whatever comes out is worth 0
	p, e := seek.Model(g)
	if e != api.OK || seek.Findable(g) != api.ErrSize {
		t.Fatal(e)
	}
	x := make([]api.Frac, 96)
	for v := 0; v < 96; v += 6 {
		x[v] = num(1, 1)
	}
	cert := api.Cert{Kind: api.Best, X: x, Y: make([]api.Frac, len(p.Rows))}
	a := api.Answer{Kind: api.Best, Rule: seek.RuleOf(g, x), Cert: cert}
	if !plane.Judge(p, cert) || !seek.Judge(g, a) {
		t.Error("with lotteries")
	}
	g.Pay, g.Aim = true, api.AimWorst // 161 variables
	a.Rule = seek.RuleOf(g, x)
	if _, e := seek.Model(g); e != api.ErrSize || seek.Judge(g, a) {
		t.Error("without a program")
	}
	h := wide(2, 4, 4) // 32 whole variables
	h.Lots = false
	if p, e = seek.Model(h); e != api.OK || seek.Findable(h) != api.ErrSize {
		t.Fatal(e)
	}
	x = make([]api.Frac, 32)
	for v := 0; v < 32; v += 2 {
		x[v] = num(1, 1)
	}
	leaf := api.Case{Var: -1, Cert: api.Cert{Kind: api.Best, X: x, Y: make([]api.Frac, len(p.Rows)+32)}}
	a = api.Answer{Kind: api.Best, Rule: seek.RuleOf(h, x), Tree: api.Tree{Kind: api.Best, X: x, Cases: []api.Case{leaf}}}
	if !seek.Judge(h, a) {
		t.Error("without lotteries")
	}
	h.Agents[0].Kinds[0].Worth[0], h.Agents[0].Kinds[0].Weight, h.Agents[1].Kinds[0].Weight = num(1, 1), num(1, 1), num(1, 1)
	if seek.Judge(h, a) {
		t.Error("another game is judged alike")
	}
}
