package plane_test

import (
	"math/rand"
	"testing"

	"unbent/api"
	"unbent/frac"
	"unbent/plane"
)

// example is the document's program and tree.
func example() (api.Prog, []int, api.Tree) {
	return prog(nums(1, 1), row(api.AtMost, 3, 2, 2)), []int{0, 1}, api.Tree{Kind: api.Best, X: nums(1, 0), Cases: []api.Case{
		{Var: 0, Zero: 1, One: 2},
		{Var: -1, Cert: best(nums(0, 1), nums(0, 0, 1, 1))},
		{Var: 1, Zero: 3, One: 4},
		{Var: -1, Cert: best(nums(1, 0), nums(0, 0, 0, 1, 1))},
		{Var: -1, Cert: none(1, 0, 0, -2, -2)},
	}}
}

func TestJudgeWhole(t *testing.T) {
	p, whole, tree := example()
	if !plane.JudgeWhole(p, whole, tree) {
		t.Error("the document's tree is refused")
	}
	tree.Ray = nums(1)
	tree.Cases = append(tree.Cases, api.Case{Var: 9, Zero: -1})
	if !plane.JudgeWhole(p, whole, tree) {
		t.Error("a tree with more than it needs is refused")
	}
}

// JudgeWhole: each condition broken by itself.
func TestJudgeWholeSpoilt(t *testing.T) {
	for i, spoil := range []func(p *api.Prog, whole *[]int, tree *api.Tree){
		func(p *api.Prog, whole *[]int, tree *api.Tree) { p.Rows[0].Sense = 4 },
		func(p *api.Prog, whole *[]int, tree *api.Tree) { p.Free[0] = true },
		func(p *api.Prog, whole *[]int, tree *api.Tree) { *whole = []int{0, 0} },
		func(p *api.Prog, whole *[]int, tree *api.Tree) { *whole = []int{0, 2} },
		func(p *api.Prog, whole *[]int, tree *api.Tree) { *whole = []int{0, -1} },
		func(p *api.Prog, whole *[]int, tree *api.Tree) { *whole = []int{0} },
		func(p *api.Prog, whole *[]int, tree *api.Tree) { *whole = []int{1, 0} }, // the bounds' rows in another order
		func(p *api.Prog, whole *[]int, tree *api.Tree) { tree.Kind = 0 },
		func(p *api.Prog, whole *[]int, tree *api.Tree) { tree.Kind = api.None },
		func(p *api.Prog, whole *[]int, tree *api.Tree) { tree.Kind = api.Endless },
		func(p *api.Prog, whole *[]int, tree *api.Tree) { tree.Kind = 4 },
		func(p *api.Prog, whole *[]int, tree *api.Tree) { tree.X = nums(0, 0) },
		func(p *api.Prog, whole *[]int, tree *api.Tree) { tree.X = nums(1, 1) },
		func(p *api.Prog, whole *[]int, tree *api.Tree) { tree.X = []api.Frac{num(1, 2), num(1, 2)} },
		func(p *api.Prog, whole *[]int, tree *api.Tree) { tree.X = nums(1) },
		func(p *api.Prog, whole *[]int, tree *api.Tree) { tree.X = nil },
		func(p *api.Prog, whole *[]int, tree *api.Tree) { tree.Cases = nil },
		func(p *api.Prog, whole *[]int, tree *api.Tree) { tree.Cases = tree.Cases[:4] },
		func(p *api.Prog, whole *[]int, tree *api.Tree) { tree.Cases = tree.Cases[1:] },
		func(p *api.Prog, whole *[]int, tree *api.Tree) { tree.Cases[0].Var = 2 },
		func(p *api.Prog, whole *[]int, tree *api.Tree) { tree.Cases[0].Var = -2 },
		func(p *api.Prog, whole *[]int, tree *api.Tree) { tree.Cases[0].Var = 1 },
		func(p *api.Prog, whole *[]int, tree *api.Tree) { tree.Cases[2].Var = 0 },
		func(p *api.Prog, whole *[]int, tree *api.Tree) { tree.Cases[2].Zero = 2 },
		func(p *api.Prog, whole *[]int, tree *api.Tree) { tree.Cases[2].Zero = 1 },
		func(p *api.Prog, whole *[]int, tree *api.Tree) { tree.Cases[2].One = -1 },
		func(p *api.Prog, whole *[]int, tree *api.Tree) { tree.Cases[2].One = 5 },
		func(p *api.Prog, whole *[]int, tree *api.Tree) { tree.Cases[2].One = 3 },
		func(p *api.Prog, whole *[]int, tree *api.Tree) {
			tree.Cases[0].Zero, tree.Cases[0].One = 2, 1
		},
		func(p *api.Prog, whole *[]int, tree *api.Tree) { tree.Cases[1].Cert.X = nums(0, 0) },
		func(p *api.Prog, whole *[]int, tree *api.Tree) { tree.Cases[1].Cert.Y = nums(0, 0, 1) },
		func(p *api.Prog, whole *[]int, tree *api.Tree) { tree.Cases[3].Cert.Kind = api.None },
		func(p *api.Prog, whole *[]int, tree *api.Tree) { tree.Cases[4].Cert.Kind = api.Best },
		func(p *api.Prog, whole *[]int, tree *api.Tree) { tree.Cases[4].Cert.Y = nums(1, 0, 0, -2, -1) },
		func(p *api.Prog, whole *[]int, tree *api.Tree) {
			tree.Cases[0] = api.Case{Var: -1, Cert: best([]api.Frac{num(1, 1), num(1, 2)}, []api.Frac{num(1, 2), num(0, 1), num(0, 1)})} // true, but above the limit
		},
	} {
		p, whole, tree := example()
		spoil(&p, &whole, &tree)
		if plane.JudgeWhole(p, whole, tree) {
			t.Error(i, "is taken")
		}
	}
}

// The limit none: no leaf may have a best one.
func TestJudgeWholeNone(t *testing.T) {
	p := prog(nums(0, 1), row(api.Exact, 1, 2, 0))
	tree := api.Tree{Kind: api.None, Cases: []api.Case{
		{Var: 0, Zero: 2, One: 1},
		{Var: -1, Cert: none(1, 0, -2)},
		{Var: -1, Cert: none(-1, 0, 2)},
	}}
	if !plane.JudgeWhole(p, []int{0}, tree) {
		t.Error("a tree is refused")
	}
	tree.Cases[2].Cert = none(1, 0, 2)
	if plane.JudgeWhole(p, []int{0}, tree) {
		t.Error("a spoilt leaf is taken")
	}
	q := prog(nums(1))
	for _, kind := range []int{api.None, api.Best} {
		tree = api.Tree{Kind: kind, X: nums(1), Cases: []api.Case{{Var: -1, Cert: best(nums(1), nums(1))}}}
		if plane.JudgeWhole(q, []int{0}, tree) != (kind == api.Best) {
			t.Error("a best leaf, of the kind", kind)
		}
	}
	// a leaf may not be endless, as it is without bounds
	tree = api.Tree{Kind: api.Best, X: nums(1), Cases: []api.Case{{Var: -1, Cert: endless(nums(0), nums(1))}}}
	if plane.JudgeWhole(q, nil, tree) || plane.JudgeWhole(q, []int{0}, tree) {
		t.Error("an endless leaf is taken")
	}
}

func TestJudgeWholeEndless(t *testing.T) {
	p := prog(nums(1, 1), row(api.AtLeast, 1, 2, 0))
	for i, c := range []struct {
		whole  []int
		x, ray []api.Frac
		want   bool
	}{
		{[]int{0}, nums(1, 0), nums(0, 1), true},
		{nil, []api.Frac{num(1, 2), num(0, 1)}, nums(1, 1), true},
		{[]int{0}, nums(1, 0), nums(1, 1), false},
		{[]int{0}, nums(2, 0), nums(0, 1), false},
		{[]int{0}, []api.Frac{num(1, 2), num(0, 1)}, nums(0, 1), false},
		{[]int{0}, nums(0, 0), nums(0, 1), false},
		{[]int{0}, nums(1, 0), nums(0, 0), false},
		{[]int{0}, nums(1, 0), nums(0), false},
		{[]int{0}, nums(1, 0), nil, false},
		{[]int{0}, nil, nums(0, 1), false},
		{[]int{0, 1}, nums(1, 0), nums(0, 1), false},
		{[]int{0, 0}, nums(1, 0), nums(0, 1), false},
	} {
		tree := api.Tree{Kind: api.Endless, X: c.x, Ray: c.ray, Cases: []api.Case{{Var: 77}}}
		if plane.JudgeWhole(p, c.whole, tree) != c.want {
			t.Error(i, "is judged", !c.want)
		}
	}
}

// Nodes may be visited on two ways, but not more often than there are cases.
func TestJudgeWholeShared(t *testing.T) {
	p := prog(nums(0, 0), row(api.AtMost, -1, 0, 0))
	leaf := api.Case{Var: -1, Cert: none(1, 0, 0, 0, 0)}
	tree := api.Tree{Kind: api.None, Cases: []api.Case{{Var: 0, Zero: 1, One: 1}, {Var: 1, Zero: 2, One: 2}, leaf}}
	for range 4 {
		if plane.JudgeWhole(p, []int{0, 1}, tree) {
			t.Error("seven visits of", len(tree.Cases), "cases are taken")
		}
		tree.Cases = append(tree.Cases, leaf)
	}
	if !plane.JudgeWhole(p, []int{0, 1}, tree) {
		t.Error("seven visits of seven cases are refused")
	}
}

// A node's program must be right: its rows may not be too many. Whole's own sizes do not matter here.
func TestJudgeWholeSizes(t *testing.T) {
	p := many(api.MaxVars, api.MaxRows-1)
	p.Rows[0] = api.Row{A: p.Rows[0].A, Sense: api.AtMost, B: num(-1, 1)}
	y := make([]api.Frac, api.MaxRows)
	y[0] = num(1, 1)
	tree := api.Tree{Kind: api.None, Cases: []api.Case{{Var: -1, Cert: api.Cert{Kind: api.None, Y: y}}}}
	if !plane.JudgeWhole(p, []int{5}, tree) {
		t.Error("the largest program of a node is refused")
	}
	p.Rows = append(p.Rows, p.Rows[1])
	tree.Cases[0].Cert.Y = append(y, num(0, 1))
	if plane.JudgeWhole(p, []int{5}, tree) {
		t.Error("a node's program with too many rows is taken")
	}
	q := many(40, 0)
	var whole []int
	for v := range q.Vars {
		whole = append(whole, v)
	}
	tree = api.Tree{Kind: api.Best, X: make([]api.Frac, 40), Cases: []api.Case{{Var: -1, Cert: best(make([]api.Frac, 40), make([]api.Frac, 40))}}}
	if !plane.JudgeWhole(q, whole, tree) {
		t.Error("forty whole variables are refused")
	}
}

// P2.6: what is accepted is so, of whatever tree: of good trees, spoilt at one place, those that are still accepted tell the truth.
func TestJudgeWholeTruth(t *testing.T) {
	r := rand.New(rand.NewSource(11))
	taken, refused := 0, 0
	for range 1500 {
		p := drawSmall(r)
		whole := drawWhole(r, p)
		tree := solvedWhole(t, p, whole)
		kind, value := tryAll(t, p, whole)
		for range 4 {
			spoil(r, &tree)
			if !plane.JudgeWhole(p, whole, tree) {
				refused++
				continue
			}
			taken++
			if tree.Kind != kind || kind == api.Best && frac.Cmp(plane.Value(p, tree.X), value) != 0 {
				t.Fatal("of", p, whole, tree, "is taken")
			}
		}
	}
	if taken < 100 || refused < 100 {
		t.Error("too few:", taken, refused)
	}
}

// spoil changes something of a tree.
func spoil(r *rand.Rand, tree *api.Tree) {
	some := func(l []api.Frac) {
		if len(l) > 0 {
			l[r.Intn(len(l))] = num(r.Intn(5)-2, 1+r.Intn(2))
		}
	}
	switch r.Intn(6) {
	case 0:
		some(tree.X)
	case 1:
		some(tree.Ray)
	case 2:
		tree.Kind = 1 + r.Intn(3)
	}
	if len(tree.Cases) == 0 {
		return
	}
	c := &tree.Cases[r.Intn(len(tree.Cases))]
	switch r.Intn(6) {
	case 0:
		c.Var = r.Intn(4) - 1
	case 1:
		c.Zero, c.One = c.One, c.Zero
	case 2:
		some(c.Cert.X)
	case 3:
		some(c.Cert.Y)
	case 4:
		c.Cert.Kind = 1 + r.Intn(3)
	}
}
