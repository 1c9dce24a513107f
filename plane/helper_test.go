package plane_test

import (
	"math/big"
	"math/rand"
	"testing"

	"unbent/api"
	"unbent/frac"
)

func num(p, q int) api.Frac {
	f, e := frac.Make(p, q)
	if e != api.OK {
		panic("no fraction")
	}
	return f
}

func nums(l ...int) []api.Frac {
	var out []api.Frac
	for _, n := range l {
		out = append(out, num(n, 1))
	}
	return out
}

func prog(goal []api.Frac, rows ...api.Row) api.Prog {
	return api.Prog{Vars: len(goal), Free: make([]bool, len(goal)), Goal: goal, Rows: rows}
}

func row(sense, b int, a ...int) api.Row {
	return api.Row{A: nums(a...), Sense: sense, B: num(b, 1)}
}

// many is a program of so many variables and rows, all of whose numbers are 0.
func many(vars, rows int) api.Prog {
	p := prog(make([]api.Frac, vars))
	for range rows {
		p.Rows = append(p.Rows, api.Row{A: make([]api.Frac, vars)})
	}
	return p
}

// pick is how a program's numbers are drawn.
type pick struct {
	most  int     // size of the numbers
	parts bool    // fractions, too
	dense float64 // how many are not 0
}

func (k pick) draw(r *rand.Rand) api.Frac {
	if r.Float64() > k.dense {
		return num(0, 1)
	}
	den := 1
	if k.parts {
		den += r.Intn(k.most)
	}
	return num(r.Intn(2*k.most+1)-k.most, den)
}

func drawProg(r *rand.Rand, vars, rows int, k pick) api.Prog {
	p := many(vars, rows)
	for v := range vars {
		p.Free[v] = r.Intn(4) == 0
		p.Goal[v] = k.draw(r)
	}
	for i := range p.Rows {
		p.Rows[i].Sense = r.Intn(3) - 1
		p.Rows[i].B = k.draw(r)
		for v := range vars {
			p.Rows[i].A[v] = k.draw(r)
		}
	}
	return p
}

// drawSmall is a small program of any form.
func drawSmall(r *rand.Rand) api.Prog {
	return drawProg(r, 1+r.Intn(6), r.Intn(8), pick{1 + r.Intn(6), r.Intn(2) == 0, 0.3 + 0.7*r.Float64()})
}

// rat is what a fraction stands for, computed by math/big alone; 0 if it is not right.
func rat(f api.Frac) *big.Rat {
	out := new(big.Rat)
	if !frac.Right(f) {
		return out
	}
	out.SetFrac(whole(f.Num), whole(f.Den))
	if f.Neg {
		out.Neg(out)
	}
	return out
}

func whole(words []uint32) *big.Int {
	out := new(big.Int)
	for i := len(words) - 1; i >= 0; i-- {
		out.Lsh(out, 32)
		out.Or(out, big.NewInt(int64(words[i])))
	}
	return out
}

// sum is the sum of products.
func sum(a, b []api.Frac) *big.Rat {
	out := new(big.Rat)
	for i := range a {
		out.Add(out, new(big.Rat).Mul(rat(a[i]), rat(b[i])))
	}
	return out
}

// meets reports whether a sum stands to its bound as a sense asks.
func meets(sum, bound *big.Rat, sense int) bool {
	switch order := sum.Cmp(bound); sense {
	case api.AtMost:
		return order <= 0
	case api.AtLeast:
		return order >= 0
	default:
		return order == 0
	}
}

// plainFits is Fits by its definition.
func plainFits(p api.Prog, x []api.Frac) bool {
	if len(x) != p.Vars {
		return false
	}
	for v, f := range x {
		if !p.Free[v] && rat(f).Sign() < 0 {
			return false
		}
	}
	for _, w := range p.Rows {
		if !meets(sum(w.A, x), rat(w.B), w.Sense) {
			return false
		}
	}
	return true
}

// plainBounds reports whether y has the signs of p and its columns are at least what goal has, just that where a variable is free.
func plainBounds(p api.Prog, y []api.Frac, goal func(v int) *big.Rat) bool {
	if len(y) != len(p.Rows) {
		return false
	}
	for i, w := range p.Rows {
		if w.Sense == api.AtMost && rat(y[i]).Sign() < 0 || w.Sense == api.AtLeast && rat(y[i]).Sign() > 0 {
			return false
		}
	}
	for v := range p.Vars {
		column := new(big.Rat)
		for i, w := range p.Rows {
			column.Add(column, new(big.Rat).Mul(rat(y[i]), rat(w.A[v])))
		}
		sense := api.AtLeast
		if p.Free[v] {
			sense = api.Exact
		}
		if !meets(column, goal(v), sense) {
			return false
		}
	}
	return true
}

// plainJudge is Judge by its definition, of a right program.
func plainJudge(p api.Prog, c api.Cert) bool {
	var sides []api.Frac
	for _, w := range p.Rows {
		sides = append(sides, w.B)
	}
	switch c.Kind {
	case api.Best:
		return plainFits(p, c.X) && plainBounds(p, c.Y, func(v int) *big.Rat { return rat(p.Goal[v]) }) && sum(sides, c.Y).Cmp(sum(p.Goal, c.X)) == 0
	case api.None:
		return plainBounds(p, c.Y, func(int) *big.Rat { return new(big.Rat) }) && sum(sides, c.Y).Sign() < 0
	case api.Endless:
		level := p
		level.Rows = nil
		for _, w := range p.Rows {
			w.B = num(0, 1)
			level.Rows = append(level.Rows, w)
		}
		return plainFits(p, c.X) && plainFits(level, c.Ray) && sum(p.Goal, c.Ray).Sign() > 0
	}
	return false
}

// same reports whether two lists have the same numbers to the letter.
func same(a, b []api.Frac) bool {
	if len(a) != len(b) {
		return false
	}
	for i := range a {
		if frac.Cmp(a[i], b[i]) != 0 || frac.Right(a[i]) != frac.Right(b[i]) {
			return false
		}
	}
	return true
}

// sameProg reports whether two programs are the same.
func sameProg(a, b api.Prog) bool {
	if a.Vars != b.Vars || len(a.Free) != len(b.Free) || len(a.Rows) != len(b.Rows) || !same(a.Goal, b.Goal) {
		return false
	}
	for v := range a.Free {
		if a.Free[v] != b.Free[v] {
			return false
		}
	}
	for i, w := range a.Rows {
		if w.Sense != b.Rows[i].Sense || !same(w.A, b.Rows[i].A) || !same([]api.Frac{w.B}, []api.Frac{b.Rows[i].B}) {
			return false
		}
	}
	return true
}

// rightProg fails if a fraction of p is not right.
func rightProg(t *testing.T, p api.Prog) {
	t.Helper()
	rightAll(t, p.Goal)
	for _, w := range p.Rows {
		rightAll(t, append([]api.Frac{w.B}, w.A...))
	}
}

func rightAll(t *testing.T, l []api.Frac) {
	t.Helper()
	for _, f := range l {
		if !frac.Right(f) {
			t.Fatal("not right:", f)
		}
	}
}

// wrongs are values that are no right fractions, and so stand for 0.
func wrongs() []api.Frac {
	return []api.Frac{
		{},
		{Num: []uint32{1}},
		{Neg: true, Den: []uint32{1}},
		{Num: []uint32{2}, Den: []uint32{4}},
		{Num: []uint32{3, 0}, Den: []uint32{1}},
		{Num: []uint32{7}, Den: []uint32{0}},
		{Num: make([]uint32, api.MaxWords+1), Den: []uint32{1}},
	}
}
