package plane_test

import (
	"math/rand"
	"testing"

	"unbent/api"
	"unbent/frac"
	"unbent/plane"
)

// Normal turns AtLeast rows, and leaves the others.
func TestNormal(t *testing.T) {
	p := freed(prog(nums(1, 2), row(api.AtLeast, 3, 1, -1), row(api.AtMost, 4, 1, 0), row(api.Exact, 5, 0, 1)), 1)
	want := freed(prog(nums(1, 2), row(api.AtMost, -3, -1, 1), row(api.AtMost, 4, 1, 0), row(api.Exact, 5, 0, 1)), 1)
	if n, e := plane.Normal(p); e != api.OK || !sameProg(n, want) {
		t.Error("Normal is", n, e)
	}
	if n, e := plane.Normal(prog(nums(1))); e != api.OK || !sameProg(n, prog(nums(1))) {
		t.Error("Normal without rows is", n, e)
	}
}

// Dual: the document's example, and one of free variables and all senses.
func TestDual(t *testing.T) {
	for _, c := range []struct{ p, want api.Prog }{
		{prog(nums(3, 2), row(api.AtMost, 4, 1, 1), row(api.AtMost, 3, 1, 0)), prog(nums(-4, -3), row(api.AtMost, -3, -1, -1), row(api.AtMost, -2, -1, 0))},
		{freed(prog(nums(1, 2), row(api.AtLeast, 3, 1, -1), row(api.Exact, 5, 6, 7)), 1), freed(prog(nums(3, -5), row(api.AtMost, -1, 1, -6), row(api.Exact, -2, -1, -7)), 1)},
	} {
		if d, e := plane.Dual(c.p); e != api.OK || !sameProg(d, c.want) {
			t.Error("the dual of", c.p, "is", d, e)
		}
	}
	if _, e := plane.Dual(many(api.MaxVars, api.MaxVars)); e != api.OK {
		t.Error("the largest dual:", e)
	}
}

// Fixed adds rows in order, and leaves the others.
func TestFixed(t *testing.T) {
	p := freed(prog(nums(1, 2, 3), row(api.AtLeast, 3, 1, -1, 0)), 1)
	want := p
	want.Rows = append(want.Rows, row(api.Exact, 1, 0, 0, 1), row(api.Exact, 0, 0, 1, 0))
	if f, e := plane.Fixed(p, []int{2, 1}, []int{1, 0}); e != api.OK || !sameProg(f, want) {
		t.Error("Fixed is", f, e)
	}
	if f, e := plane.Fixed(p, nil, []int{}); e != api.OK || !sameProg(f, p) {
		t.Error("Fixed of none is", f, e)
	}
}

// The errors of Normal, Dual and Fixed, in their order; with an error there is no program.
func TestFormErrors(t *testing.T) {
	wrong := prog(nums(1, 2), row(7, 1, 1, 1))
	large := many(api.MaxVars+1, 1)
	fix := func(p api.Prog, vars, bits []int) func() (api.Prog, api.Errno) {
		return func() (api.Prog, api.Errno) { return plane.Fixed(p, vars, bits) }
	}
	dual := func(p api.Prog) func() (api.Prog, api.Errno) {
		return func() (api.Prog, api.Errno) { return plane.Dual(p) }
	}
	two := prog(nums(1, 2), row(api.AtMost, 1, 1, 1))
	full := many(3, api.MaxRows-1)
	for i, c := range []struct {
		of   func() (api.Prog, api.Errno)
		want api.Errno
	}{
		{func() (api.Prog, api.Errno) { return plane.Normal(wrong) }, api.ErrProg},
		{func() (api.Prog, api.Errno) { return plane.Normal(large) }, api.ErrSize},
		{dual(wrong), api.ErrProg},
		{dual(large), api.ErrSize},
		{dual(api.Prog{Vars: 1, Rows: make([]api.Row, api.MaxVars+1)}), api.ErrProg},
		{dual(prog(nums(1))), api.ErrProg},
		{dual(many(1, api.MaxVars+1)), api.ErrSize},
		{fix(wrong, nil, nil), api.ErrProg},
		{fix(large, []int{0}, nil), api.ErrSize},
		{fix(two, []int{0}, nil), api.ErrProg},
		{fix(two, nil, []int{0}), api.ErrProg},
		{fix(two, []int{2}, []int{0}), api.ErrProg},
		{fix(two, []int{-1}, []int{0}), api.ErrProg},
		{fix(two, []int{1, 1}, []int{0, 0}), api.ErrProg},
		{fix(two, []int{1}, []int{2}), api.ErrProg},
		{fix(two, []int{1}, []int{-1}), api.ErrProg},
		{fix(full, []int{0}, []int{1}), api.OK},
		{fix(full, []int{0, 1}, []int{1, 0}), api.ErrSize},
		{fix(full, []int{0, 1}, []int{1, 3}), api.ErrProg},
		{fix(full, []int{0, 0}, []int{1, 1}), api.ErrProg},
	} {
		p, e := c.of()
		if e != c.want || e != api.OK && (p.Vars != 0 || p.Free != nil || p.Goal != nil || p.Rows != nil) {
			t.Error(i, "is", p, e)
		}
	}
}

// All fractions that are told are right ones.
func TestFormFractions(t *testing.T) {
	for _, f := range wrongs() {
		p := prog([]api.Frac{f, num(1, 2)}, api.Row{A: []api.Frac{num(2, 3), f}, Sense: api.AtLeast, B: f}, api.Row{A: []api.Frac{f, f}, B: f})
		n, _ := plane.Normal(p)
		d, _ := plane.Dual(p)
		x, _ := plane.Fixed(p, []int{0}, []int{1})
		rightProg(t, n)
		rightProg(t, d)
		rightProg(t, x)
		if n.Vars != 2 || d.Vars != 2 || len(x.Rows) != 3 || frac.Sign(n.Rows[0].B) != 0 || frac.Sign(x.Rows[0].A[1]) != 0 {
			t.Error("of", f, n, d, x)
		}
	}
}

// P2.4: Normal has the same vectors and values; the dual of the dual is Normal.
func TestDualOfDual(t *testing.T) {
	r := rand.New(rand.NewSource(2))
	for range 3000 {
		p := drawSmall(r)
		n, _ := plane.Normal(p)
		for range 5 {
			var x []api.Frac
			for range p.Vars {
				x = append(x, pick{2, false, 0.7}.draw(r))
			}
			if plane.Fits(p, x) != plane.Fits(n, x) || frac.Cmp(plane.Value(p, x), plane.Value(n, x)) != 0 {
				t.Fatal("Normal of", p, "is another program:", n)
			}
		}
		d, e := plane.Dual(p)
		if len(p.Rows) == 0 {
			if e != api.ErrProg {
				t.Fatal("the dual of a program without rows:", e)
			}
			continue
		}
		back, e := plane.Dual(d)
		if e != api.OK || !sameProg(back, n) {
			t.Fatal("the dual of the dual of", p, "is", back, e)
		}
	}
}
