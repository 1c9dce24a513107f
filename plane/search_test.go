package plane

import (
	"math/rand"
	"slices"
	"testing"

	"unbent/api"
	"unbent/frac"
)

// How many tables are kept makes no difference to what is told.
func TestRoom(t *testing.T) {
	r := rand.New(rand.NewSource(5))
	again := 0
	for range 400 {
		p := drawRough(r)
		var all []int
		for v := range p.Vars {
			p.Free[v] = false
			all = append(all, v)
		}
		much, little := newSearch(p, all), newSearch(p, all)
		if much.nodes[0].cert.Kind == api.Endless {
			t.Fatal("bounded variables have an endless program")
		}
		little.room = 0
		a, e := much.tree()
		b, f := little.tree()
		if e != f || a.Kind != b.Kind || !JudgeWhole(p, all, a) || !JudgeWhole(p, all, b) || a.Kind == api.Best && frac.Cmp(Value(p, a.X), Value(p, b.X)) != 0 {
			t.Fatal(p, "is told", a, e, b, f)
		}
		if len(little.nodes) > 3 {
			again++
		}
	}
	if again < 20 {
		t.Error("too few tables are made again:", again)
	}
}

// A variable may be fixed where a line is solved for it, and where it has a column.
func TestFix(t *testing.T) {
	r := rand.New(rand.NewSource(6))
	ways := [2]int{}
	for range 500 {
		p := drawRough(r)
		table := newTable(p, exactly)
		if table.solve().kind != api.Best {
			continue
		}
		for v := range p.Vars {
			one := table.clone()
			one.fix(v, v%2)
			ways[min(1, 1+slices.Index(table.columns, v))]++
			fixed, _ := Fixed(p, []int{v}, []int{v % 2})
			if told := one.repaired(); !Judge(fixed, one.corner(fixed).proof(told)) {
				t.Fatal(p, "with", v, "fixed is told", told)
			}
		}
	}
	if ways[0] < 100 || ways[1] < 100 {
		t.Error("too few of a way:", ways)
	}
}

// Of two equations that are nearly the same only an exact table tells the solution.
func TestNear(t *testing.T) {
	long := api.Frac{Den: []uint32{1}, Num: make([]uint32, 300)}
	for i := range long.Num {
		long.Num[i] = uint32(i*i) + 7
	}
	next := frac.Add(long, integer(1))
	p := api.Prog{Vars: 2, Free: []bool{true, true}, Goal: []api.Frac{integer(1), integer(1)}, Rows: []api.Row{
		{A: []api.Frac{long, next}, B: integer(1)},
		{A: []api.Frac{next, frac.Add(next, integer(1))}, B: integer(0)},
	}}
	for _, longest := range []int{roughly, finely} {
		table := newTable(p, longest)
		told := table.solve()
		if Judge(p, table.corner(p).proof(told)) {
			t.Error("a rough table does for what was to be too near for it")
		}
	}
	c, e := Solve(p)
	if e != api.OK || !Judge(p, c) || c.Kind != api.Best || frac.Cmp(c.X[1], next) != 0 {
		t.Error("nearly the same equations:", c.Kind, e)
	}
}
