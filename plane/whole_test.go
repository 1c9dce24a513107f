package plane_test

import (
	"math/rand"
	"testing"

	"unbent/api"
	"unbent/frac"
	"unbent/plane"
)

// solvedWhole is the tree of a program that can be solved, which must be judged right and have nothing that its kind does not use.
func solvedWhole(t *testing.T, p api.Prog, whole []int) api.Tree {
	t.Helper()
	tree, e := plane.Whole(p, whole)
	if e != api.OK || !plane.JudgeWhole(p, whole, tree) {
		t.Fatal("Whole of", p, whole, "is", tree, e)
	}
	if tree.Kind == api.None && tree.X != nil || tree.Kind != api.Endless && tree.Ray != nil || tree.Kind == api.Endless && tree.Cases != nil {
		t.Fatal("Whole tells what its kind does not use:", tree)
	}
	leaves := 0
	for _, c := range tree.Cases {
		if c.Var < 0 {
			leaves++
		}
		if c.Var < 0 && (c.Zero != 0 || c.One != 0) || c.Var >= 0 && (c.Cert.Kind != 0 || c.Cert.X != nil || c.Cert.Y != nil) {
			t.Fatal("a case tells what it does not use:", c)
		}
	}
	if leaves > api.MaxLeaves {
		t.Fatal("too many leaves:", leaves)
	}
	return tree
}

// drawWhole is some variables of p that are not free, in any order.
func drawWhole(r *rand.Rand, p api.Prog) []int {
	var out []int
	for _, v := range r.Perm(p.Vars) {
		if !p.Free[v] && r.Intn(4) > 0 {
			out = append(out, v)
		}
	}
	return out
}

// tryAll is the kind and the best value, by trying all bits.
func tryAll(t *testing.T, p api.Prog, whole []int) (kind int, best api.Frac) {
	kind = api.None
	for n := range 1 << len(whole) {
		var bits []int
		for i := range whole {
			bits = append(bits, n>>i&1)
		}
		q, _ := plane.Fixed(p, whole, bits)
		c := solved(t, q)
		if c.Kind == api.Endless {
			return api.Endless, best
		}
		if c.Kind == api.Best {
			if v := plane.Value(p, c.X); kind == api.None || frac.Cmp(v, best) > 0 {
				best = v
			}
			kind = api.Best
		}
	}
	return kind, best
}

// P2.6: Whole's tree is accepted, and tells what trying all tells.
func TestWhole(t *testing.T) {
	r := rand.New(rand.NewSource(9))
	kinds := map[int]int{}
	for range 3000 {
		p := drawSmall(r)
		whole := drawWhole(r, p)
		tree := solvedWhole(t, p, whole)
		kind, best := tryAll(t, p, whole)
		if tree.Kind != kind || kind == api.Best && frac.Cmp(plane.Value(p, tree.X), best) != 0 {
			t.Fatal("Whole of", p, whole, "is", tree, "not", kind, best)
		}
		kinds[kind]++
	}
	for _, kind := range []int{api.Best, api.None, api.Endless} {
		if kinds[kind] < 200 {
			t.Error("too few of a kind:", kinds)
		}
	}
}

// Known programs; the document's example among them.
func TestWholeKnown(t *testing.T) {
	for i, c := range []struct {
		p     api.Prog
		whole []int
		kind  int
		value string
	}{
		{prog(nums(1, 1), row(api.AtMost, 3, 2, 2)), []int{0, 1}, api.Best, "1"},
		{prog(nums(1, 1), row(api.AtMost, 3, 2, 2)), []int{1}, api.Best, "3/2"},
		{prog(nums(1, 1), row(api.AtMost, 3, 2, 2)), nil, api.Best, "3/2"},
		{prog(nums(5)), []int{0}, api.Best, "5"},
		{prog(nums(-5)), []int{0}, api.Best, "0"},
		{prog(nums(5)), nil, api.Endless, ""},
		{prog(nums(1, 1)), []int{0}, api.Endless, ""},
		{prog(nums(1, 1), row(api.Exact, 1, 2, 0)), []int{0}, api.None, ""},
		{prog(nums(1, 1), row(api.Exact, 1, 2, 0)), []int{1}, api.Best, "3/2"},
		{prog(nums(1, 1), row(api.AtLeast, 2, 1, 0)), []int{0}, api.None, ""},
		{prog(nums(0, 1), row(api.Exact, 3, 2, 4)), []int{0, 1}, api.None, ""},
		{freed(prog(nums(0, -1), row(api.AtLeast, 1, 3, 0)), 1), []int{0}, api.Endless, ""},
	} {
		tree := solvedWhole(t, c.p, c.whole)
		if tree.Kind != c.kind || c.kind == api.Best && frac.Print(plane.Value(c.p, tree.X)) != c.value {
			t.Error(i, "is", tree)
		}
	}
}

// Programs with as many whole variables as there may be.
func TestWholeLarge(t *testing.T) {
	r := rand.New(rand.NewSource(10))
	for range 4 {
		p := drawProg(r, api.MaxWhole, 10, pick{20, false, 1})
		var whole []int
		for v := range p.Vars {
			p.Free[v] = false
			whole = append(whole, v)
		}
		for i := range p.Rows {
			p.Rows[i].Sense, p.Rows[i].B = api.AtMost, num(r.Intn(60), 1)
		}
		if solvedWhole(t, p, whole).Kind != api.Best {
			t.Error("what nothing fits: all zeros do")
		}
	}
	full := many(api.SolveVars, api.SolveRows-2*api.MaxWhole)
	var whole []int
	for v := range api.MaxWhole {
		whole = append(whole, 3*v)
		full.Goal[3*v] = num(v+1, 3)
		full.Rows[v].A[3*v], full.Rows[v].B, full.Rows[v].Sense = num(2, 1), num(1+v%2, 1), api.AtMost
	}
	if tree := solvedWhole(t, full, whole); frac.Print(plane.Value(full, tree.X)) != "52" {
		t.Error("a large program is", tree.X)
	}
}

// Whole's errors, in their order; with an error there is no tree.
func TestWholeErrors(t *testing.T) {
	two := prog(nums(1, 2), row(api.AtMost, 1, 1, 1))
	wrong := prog(nums(1, 2), row(7, 1, 1, 1))
	odd := func(n int) api.Prog { // any tree that goes by its programs' bests has very many leaves
		p := prog(nums(make([]int, n)...), api.Row{A: nums(make([]int, n)...), Sense: api.AtMost, B: num(n|1, 1)})
		for v := range n {
			p.Goal[v], p.Rows[0].A[v] = num(1, 1), num(2, 1)
		}
		return p
	}
	var all []int
	for v := range api.MaxWhole {
		all = append(all, v)
	}
	for i, c := range []struct {
		p     api.Prog
		whole []int
		want  api.Errno
	}{
		{wrong, []int{9}, api.ErrProg},
		{many(api.MaxVars+1, 1), []int{-1}, api.ErrSize},
		{two, []int{2}, api.ErrProg},
		{two, []int{-1}, api.ErrProg},
		{two, []int{1, 0, 1}, api.ErrProg},
		{freed(prog(nums(1, 2)), 1), []int{1}, api.ErrProg},
		{many(api.SolveVars+1, 1), []int{0, 0}, api.ErrProg},
		{many(api.SolveVars+1, 1), []int{0}, api.ErrSize},
		{many(1, api.SolveRows-1), []int{0}, api.ErrSize},
		{many(1, api.SolveRows-2), []int{0}, api.OK},
		{many(1, api.SolveRows), nil, api.OK},
		{many(api.MaxWhole+1, 1), append(all, api.MaxWhole), api.ErrSize},
		{odd(9), all[:9], api.OK},
		{odd(10), all[:10], api.ErrSize},
		{odd(api.MaxWhole), all, api.ErrSize},
	} {
		tree, e := plane.Whole(c.p, c.whole)
		if e != c.want || e != api.OK && (tree.Kind != 0 || tree.X != nil || tree.Ray != nil || tree.Cases != nil) {
			t.Error(i, "is", tree, e)
		}
	}
}
