package plane_test

import (
	"math/rand"
	"testing"

	"unbent/api"
	"unbent/plane"
)

// drawAny is any value at all, right or not.
func drawAny(r *rand.Rand) api.Frac {
	list := func() []uint32 {
		var out []uint32
		for range r.Intn(4) {
			out = append(out, uint32(r.Intn(4)))
		}
		return out
	}
	return api.Frac{Neg: r.Intn(2) == 0, Num: list(), Den: list()}
}

func drawList(r *rand.Rand, n int) []api.Frac {
	var out []api.Frac
	if r.Intn(8) == 0 {
		n = r.Intn(5)
	}
	for range n {
		out = append(out, drawAny(r))
	}
	return out
}

func drawInts(r *rand.Rand) []int {
	var out []int
	for range r.Intn(4) {
		out = append(out, r.Intn(6)-1)
	}
	return out
}

// drawWild is a program that may be anything.
func drawWild(r *rand.Rand) api.Prog {
	n := 1 + r.Intn(4)
	p := api.Prog{Vars: n, Free: make([]bool, n), Goal: drawList(r, n)}
	if r.Intn(20) == 0 {
		p.Vars = []int{-1 << 63, -1, 0, 1<<63 - 1, 5}[r.Intn(5)]
	}
	if r.Intn(20) == 0 {
		p.Free = p.Free[1:]
	}
	for range r.Intn(5) {
		w := api.Row{A: drawList(r, n), Sense: r.Intn(3) - 1, B: drawAny(r)}
		if r.Intn(20) == 0 {
			w.Sense = r.Intn(9) - 4
		}
		p.Rows = append(p.Rows, w)
	}
	return p
}

func drawCert(r *rand.Rand) api.Cert {
	return api.Cert{Kind: r.Intn(5), X: drawList(r, r.Intn(5)), Y: drawList(r, r.Intn(5)), Ray: drawList(r, r.Intn(5))}
}

// P1: no function panics, whatever it is handed; what is told without an error is right.
func TestAnything(t *testing.T) {
	r := rand.New(rand.NewSource(12))
	for range 20000 {
		p, whole := drawWild(r), drawInts(r)
		rightAll(t, []api.Frac{plane.Value(p, drawList(r, 3))})
		plane.Fits(p, drawList(r, 3))
		plane.Judge(p, drawCert(r))
		tree := api.Tree{Kind: r.Intn(5), X: drawList(r, 3), Ray: drawList(r, 3)}
		for range r.Intn(6) {
			tree.Cases = append(tree.Cases, api.Case{Var: r.Intn(5) - 1, Zero: r.Intn(8) - 1, One: r.Intn(8) - 1, Cert: drawCert(r)})
		}
		plane.JudgeWhole(p, whole, tree)
		for _, q := range forms(p, whole) {
			rightProg(t, q)
		}
		if c, e := plane.Solve(p); e == api.OK && !plane.Judge(p, c) {
			t.Fatal("Solve of", p, "is", c)
		}
		if tree, e := plane.Whole(p, whole); e == api.OK && !plane.JudgeWhole(p, whole, tree) {
			t.Fatal("Whole of", p, whole, "is", tree)
		}
	}
}

// forms is all programs that are made of p.
func forms(p api.Prog, vars []int) []api.Prog {
	n, _ := plane.Normal(p)
	d, _ := plane.Dual(p)
	f, _ := plane.Fixed(p, vars, make([]int, len(vars)))
	return []api.Prog{n, d, f}
}

// lists is all lists of numbers of a program.
func lists(p api.Prog) [][]api.Frac {
	out := [][]api.Frac{p.Goal}
	for i := range p.Rows {
		out = append(out, p.Rows[i].A, []api.Frac{p.Rows[i].B})
	}
	return out
}

// told is all lists of numbers that the functions tell of a program.
func told(p api.Prog, whole []int) [][]api.Frac {
	var out [][]api.Frac
	for _, q := range forms(p, whole) {
		out = append(out, lists(q)...)
	}
	c, _ := plane.Solve(p)
	tree, _ := plane.Whole(p, whole)
	out = append(out, c.X, c.Y, c.Ray, tree.X, tree.Ray)
	for _, c := range tree.Cases {
		out = append(out, c.Cert.X, c.Cert.Y)
	}
	return append(out, []api.Frac{plane.Value(p, p.Goal)})
}

func clone(l []api.Frac) []api.Frac {
	var out []api.Frac
	for _, f := range l {
		out = append(out, api.Frac{Neg: f.Neg, Num: append([]uint32(nil), f.Num...), Den: append([]uint32(nil), f.Den...)})
	}
	return out
}

// spoilMemory overwrites all the memory that a list holds, and tells whether it held any word that had been overwritten already.
func spoilMemory(l []api.Frac) bool {
	twice := false
	for _, f := range l[:cap(l)] {
		for _, words := range [][]uint32{f.Num, f.Den} {
			words = words[:cap(words)]
			for i := range words {
				twice = twice || words[i] == 123456789
				words[i] = 123456789
			}
		}
	}
	return twice
}

// No result shares memory with an argument or with another part of the result, and no argument is changed.
func TestMemory(t *testing.T) {
	r := rand.New(rand.NewSource(13))
	for range 300 {
		p := drawSmall(r)
		whole := drawWhole(r, p)
		var kept [][]api.Frac
		for _, l := range lists(p) {
			kept = append(kept, clone(l))
		}
		for _, l := range told(p, whole) {
			if spoilMemory(l) {
				t.Fatal("results share memory")
			}
		}
		for i, l := range lists(p) {
			if !same(l, kept[i]) {
				t.Fatal("an argument is changed, or shares memory with a result")
			}
		}
	}
}

// The free variables and the rows of a program that is told are its own.
func TestMemoryOfForms(t *testing.T) {
	p := freed(prog(nums(1, 2), row(api.AtMost, 1, 1, 1), row(api.AtMost, 2, 1, 1)), 1)
	p.Rows = p.Rows[:1]
	for i, q := range forms(p, []int{0}) {
		q.Free[0] = true
		q.Rows[0].A[0] = num(9, 1)
		q.Rows[0].B = num(9, 1)
		if p.Free[0] || !same(p.Rows[0].A, nums(1, 1)) || !same(p.Rows[:2][1].A, nums(1, 1)) {
			t.Error(i, "shares memory with its argument")
		}
	}
}
