package plane_test

import (
	"math/rand"
	"testing"

	"unbent/api"
	"unbent/frac"
	"unbent/plane"
)

// solved is the certificate of a program that can be solved, which must be judged right and have nothing that its kind does not use.
func solved(t *testing.T, p api.Prog) api.Cert {
	t.Helper()
	c, e := plane.Solve(p)
	if e != api.OK || !plane.Judge(p, c) || !plainJudge(p, c) {
		t.Fatal("Solve of", p, "is", c, e)
	}
	if c.Kind == api.None && c.X != nil || c.Kind == api.Endless && c.Y != nil || c.Kind != api.Endless && c.Ray != nil {
		t.Fatal("Solve tells lists that its kind does not use:", c)
	}
	rightAll(t, c.X)
	rightAll(t, c.Y)
	rightAll(t, c.Ray)
	return c
}

// Solve: known programs.
func TestSolve(t *testing.T) {
	for i, c := range []struct {
		p     api.Prog
		kind  int
		value string
	}{
		{prog(nums(3, 2), row(api.AtMost, 4, 1, 1), row(api.AtMost, 3, 1, 0)), api.Best, "11"},
		{prog(nums(0)), api.Best, "0"},
		{prog(nums(-1)), api.Best, "0"},
		{prog(nums(1)), api.Endless, ""},
		{freed(prog(nums(-1)), 0), api.Endless, ""},
		{freed(prog(nums(0)), 0), api.Best, "0"},
		{prog(nums(1), row(api.AtMost, -1, 1)), api.None, ""},
		{prog(nums(1), row(api.AtMost, -1, 0)), api.None, ""},
		{prog(nums(1), row(api.Exact, 1, 0)), api.None, ""},
		{prog(nums(1), row(api.Exact, -1, 0)), api.None, ""},
		{prog(nums(1), row(api.AtLeast, 1, 0)), api.None, ""},
		{freed(prog(nums(1), row(api.AtMost, -1, 1)), 0), api.Best, "-1"},
		{prog(nums(-1), row(api.AtLeast, 2, 1)), api.Best, "-2"},
		{prog(nums(1, 1), row(api.Exact, 3, 1, 1), row(api.Exact, 6, 2, 2)), api.Best, "3"},
		{prog(nums(1, 1), row(api.Exact, 3, 1, 1), row(api.Exact, 7, 2, 2)), api.None, ""},
		{freed(prog(nums(1, -1), row(api.Exact, 3, 1, -1)), 0, 1), api.Best, "3"},
		{freed(prog(nums(1, 1), row(api.Exact, 3, 1, -1)), 0, 1), api.Endless, ""},
		{freed(prog(nums(0, 1, 0), row(api.AtMost, 3, 1, 1, 0), row(api.AtLeast, 1, 1, 0, 1)), 0), api.Endless, ""},
		{freed(prog(nums(0, 1, 0), row(api.AtMost, 3, 1, 1, 0), row(api.AtLeast, 1, 1, 0, 1), row(api.AtMost, 2, 0, 0, 1)), 0), api.Best, "4"},
		{prog(nums(1, 1), row(api.AtMost, 1, 1, -1), row(api.AtMost, 1, -1, 1)), api.Endless, ""},
		{prog(nums(1, 1), row(api.AtLeast, 2, 1, 1), row(api.AtMost, 1, 1, 1)), api.None, ""},
	} {
		got := solved(t, c.p)
		if got.Kind != c.kind || c.kind == api.Best && frac.Print(plane.Value(c.p, got.X)) != c.value {
			t.Error(i, "is", got)
		}
	}
}

// Programs on which the greatest gain alone goes round for ever (Beale's and Marshall and Suurballe's).
func TestRound(t *testing.T) {
	beale := prog([]api.Frac{num(3, 4), num(-150, 1), num(1, 50), num(-6, 1)},
		api.Row{A: []api.Frac{num(1, 4), num(-60, 1), num(-1, 25), num(9, 1)}, Sense: api.AtMost, B: num(0, 1)},
		api.Row{A: []api.Frac{num(1, 2), num(-90, 1), num(-1, 50), num(3, 1)}, Sense: api.AtMost, B: num(0, 1)},
		row(api.AtMost, 1, 0, 0, 1, 0))
	if c := solved(t, beale); c.Kind != api.Best || frac.Print(plane.Value(beale, c.X)) != "1/20" {
		t.Error("Beale's program is", c)
	}
	other := prog(nums(10, -57, -9, -24),
		api.Row{A: []api.Frac{num(1, 2), num(-11, 2), num(-5, 2), num(9, 1)}, Sense: api.AtMost, B: num(0, 1)},
		api.Row{A: []api.Frac{num(1, 2), num(-3, 2), num(-1, 2), num(1, 1)}, Sense: api.AtMost, B: num(0, 1)},
		row(api.AtMost, 1, 1, 0, 0, 0))
	if c := solved(t, other); c.Kind != api.Best || frac.Print(plane.Value(other, c.X)) != "1" {
		t.Error("the other program is", c)
	}
}

// P2.4: any program's certificate is accepted. All kinds come out.
func TestSolveAny(t *testing.T) {
	r := rand.New(rand.NewSource(3))
	kinds := map[int]int{}
	for range 20000 {
		kinds[solved(t, drawSmall(r)).Kind]++
	}
	for _, kind := range []int{api.Best, api.None, api.Endless} {
		if kinds[kind] < 1000 {
			t.Error("too few of a kind:", kinds)
		}
	}
}

// Programs at which many conditions meet: chances, orders, and rows that say what others said.
func TestSolveFlat(t *testing.T) {
	r := rand.New(rand.NewSource(4))
	for range 300 {
		p := drawProg(r, 2+r.Intn(10), 3+r.Intn(25), pick{1, false, 0.4})
		for i := range p.Rows {
			p.Rows[i].B = num(0, 1)
			if i > 0 && r.Intn(4) == 0 {
				p.Rows[i].A = p.Rows[i-1].A
			}
		}
		for v := range p.Vars {
			p.Rows[0].A[v] = num(1, 1)
		}
		p.Rows[0].Sense, p.Rows[0].B = api.Exact, num(1, 1)
		solved(t, p)
	}
}

// Middling and large programs, with small numbers and with numbers of a word above and one below.
func TestSolveLarge(t *testing.T) {
	r := rand.New(rand.NewSource(5))
	for _, c := range []struct {
		vars, rows int
		k          pick
	}{{api.SolveVars, api.SolveRows, pick{3, false, 0.03}}, {40, 60, pick{9, false, 0.2}}, {20, 30, pick{1<<32 - 1, true, 0.3}}, {8, 12, pick{1<<32 - 1, true, 1}}} {
		for form := range 3 {
			p := drawProg(r, c.vars, c.rows, c.k)
			for i := range p.Rows {
				if form > 0 { // all ones fit
					p.Rows[i].B = frac.Sum(p.Rows[i].A)
				}
				if form > 1 && p.Rows[i].Sense == api.Exact {
					p.Rows[i].Sense = api.AtMost
				}
			}
			if c := solved(t, p); form > 0 && c.Kind == api.None {
				t.Error("what all ones fit has none")
			}
		}
	}
}

// A corner is told, whose numbers are not longer than those of the program make them.
func TestCorner(t *testing.T) {
	p := prog(nums(1, 1, 1), row(api.AtMost, 3, 1, 1, 1), row(api.AtMost, 5, 1, 2, 4), row(api.AtMost, 7, 3, 1, 9))
	c := solved(t, p)
	for _, f := range c.X {
		if len(f.Num) > 1 || len(f.Den) > 1 || len(f.Den) == 1 && f.Den[0] > 100 {
			t.Error("no corner:", c.X)
		}
	}
}

// Numbers of very many words.
func TestSolveLong(t *testing.T) {
	long := func(seed int64) api.Frac {
		r := rand.New(rand.NewSource(seed))
		f := api.Frac{Den: []uint32{1}}
		for range 600 {
			f.Num = append(f.Num, r.Uint32()|1)
		}
		return f
	}
	one := num(1, 1)
	p := prog([]api.Frac{long(1), long(2)}, api.Row{A: []api.Frac{long(3), long(4)}, Sense: api.AtMost, B: long(5)}, api.Row{A: []api.Frac{long(6), one}, Sense: api.AtMost, B: long(7)})
	if c := solved(t, p); c.Kind != api.Best {
		t.Error("long numbers:", c.Kind)
	}
	// two ways that differ by the last bit alone
	near := frac.Add(long(8), one)
	q := prog([]api.Frac{long(8), near}, row(api.AtMost, 1, 1, 1))
	if c := solved(t, q); c.Kind != api.Best || frac.Cmp(c.X[1], one) != 0 {
		t.Error("near numbers:", c.X)
	}
}

// Numbers that are too long are no endless work, and no panic.
func TestSolveTooLong(t *testing.T) {
	r := rand.New(rand.NewSource(6))
	p := drawProg(r, 3, 3, pick{1, false, 1})
	for i := range p.Rows {
		for v := range p.Vars {
			f := api.Frac{Neg: r.Intn(2) == 0, Den: []uint32{1}}
			for range 1500 {
				f.Num = append(f.Num, r.Uint32()|1)
			}
			p.Rows[i].A[v] = f
		}
	}
	c, e := plane.Solve(p)
	rightAll(t, c.X)
	rightAll(t, c.Y)
	if e != api.OK || c.Kind < api.Best || c.Kind > api.Endless {
		t.Error("long numbers:", c.Kind, e)
	}
}

// Solve's errors, in their order; with an error there is no certificate.
func TestSolveErrors(t *testing.T) {
	wrong := many(api.SolveVars+1, 1)
	wrong.Rows[0].Sense = 3
	for i, c := range []struct {
		p    api.Prog
		want api.Errno
	}{
		{many(api.MaxVars+1, 0), api.ErrSize},
		{many(1, api.MaxRows+1), api.ErrSize},
		{wrong, api.ErrProg},
		{api.Prog{}, api.ErrProg},
		{many(api.SolveVars+1, 1), api.ErrSize},
		{many(1, api.SolveRows+1), api.ErrSize},
		{many(api.SolveVars, api.SolveRows), api.OK},
	} {
		got, e := plane.Solve(c.p)
		if e != c.want || e != api.OK && (got.Kind != 0 || got.X != nil || got.Y != nil || got.Ray != nil) {
			t.Error(i, "is", got, e)
		}
	}
}

// P2.1 to P2.3: no vector that fits is better than the best one; none fits where there is none; along a ray all fit, and are ever better.
func TestProofs(t *testing.T) {
	r := rand.New(rand.NewSource(7))
	tried := 0
	for range 4000 {
		p := drawSmall(r)
		c := solved(t, p)
		for range 20 {
			var x []api.Frac
			for range p.Vars {
				x = append(x, pick{4, true, 0.7}.draw(r))
			}
			if !plainFits(p, x) {
				continue
			}
			tried++
			if c.Kind == api.None || c.Kind == api.Best && sum(p.Goal, x).Cmp(sum(p.Goal, c.X)) > 0 {
				t.Fatal("of", p, c, "is told, but", x, "fits")
			}
		}
		if c.Kind == api.Endless {
			last := plane.Value(p, c.X)
			for _, part := range []api.Frac{num(1, 7), num(3, 1), num(1000, 1)} {
				var x []api.Frac
				for v := range p.Vars {
					x = append(x, frac.Add(c.X[v], frac.Mul(part, c.Ray[v])))
				}
				if !plainFits(p, x) || frac.Cmp(plane.Value(p, x), last) <= 0 {
					t.Fatal("of", p, c, "is told, but not", x)
				}
				last = plane.Value(p, x)
			}
		}
	}
	if tried < 1000 {
		t.Error("too few vectors fit:", tried)
	}
}

// P2.5: duality.
func TestDuality(t *testing.T) {
	r := rand.New(rand.NewSource(8))
	seen := map[[2]int]int{}
	for range 6000 {
		p := drawSmall(r)
		d, e := plane.Dual(p)
		if e != api.OK {
			continue
		}
		c, back := solved(t, p), solved(t, d)
		seen[[2]int{c.Kind, back.Kind}]++
		if c.Kind == api.Best && (back.Kind != api.Best || frac.Cmp(plane.Value(p, c.X), frac.Neg(plane.Value(d, back.X))) != 0) {
			t.Fatal("the best of", p, "is not that of its dual")
		}
		if c.Kind == api.Endless && back.Kind != api.None || c.Kind == api.None && back.Kind == api.Best {
			t.Fatal(p, "is of kind", c.Kind, "its dual of", back.Kind)
		}
	}
	for _, kinds := range [][2]int{{api.Best, api.Best}, {api.Endless, api.None}, {api.None, api.None}, {api.None, api.Endless}} {
		if seen[kinds] < 50 {
			t.Error("too few of", kinds, seen)
		}
	}
}
