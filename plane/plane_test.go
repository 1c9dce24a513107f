package plane_test

import (
	"math/rand"
	"testing"

	"unbent/api"
	"unbent/frac"
	"unbent/plane"
)

// Right's errors, in their order.
func TestRight(t *testing.T) {
	spoilt := func(change func(p *api.Prog)) api.Prog {
		p := prog(nums(1, 2), row(api.AtMost, 4, 1, 1), row(api.Exact, 4, 1, 1), row(api.AtLeast, 4, 1, 1))
		change(&p)
		return p
	}
	for i, c := range []struct {
		p    api.Prog
		want api.Errno
	}{
		{spoilt(func(p *api.Prog) {}), api.OK},
		{spoilt(func(p *api.Prog) { p.Rows = nil }), api.OK},
		{spoilt(func(p *api.Prog) { p.Rows = []api.Row{} }), api.OK},
		{many(api.MaxVars, api.MaxRows), api.OK},
		{many(api.MaxVars+1, 1), api.ErrSize},
		{many(1, api.MaxRows+1), api.ErrSize},
		{api.Prog{Vars: api.MaxVars + 1}, api.ErrSize},
		{api.Prog{Vars: -1, Rows: make([]api.Row, api.MaxRows+1)}, api.ErrSize},
		{api.Prog{}, api.ErrProg},
		{api.Prog{Vars: -1}, api.ErrProg},
		{spoilt(func(p *api.Prog) { p.Vars = 1 }), api.ErrProg},
		{spoilt(func(p *api.Prog) { p.Free = nil }), api.ErrProg},
		{spoilt(func(p *api.Prog) { p.Free = make([]bool, 3) }), api.ErrProg},
		{spoilt(func(p *api.Prog) { p.Goal = nums(1) }), api.ErrProg},
		{spoilt(func(p *api.Prog) { p.Goal = nums(1, 2, 3) }), api.ErrProg},
		{spoilt(func(p *api.Prog) { p.Rows[2].A = nums(1) }), api.ErrProg},
		{spoilt(func(p *api.Prog) { p.Rows[1].A = nil }), api.ErrProg},
		{spoilt(func(p *api.Prog) { p.Rows[0].A = nums(1, 2, 3) }), api.ErrProg},
		{spoilt(func(p *api.Prog) { p.Rows[1].Sense = 2 }), api.ErrProg},
		{spoilt(func(p *api.Prog) { p.Rows[1].Sense = -2 }), api.ErrProg},
	} {
		if got := plane.Right(c.p); got != c.want {
			t.Error(i, "is", got, "not", c.want)
		}
	}
}

// Value: the sum, and 0 of what has none.
func TestValue(t *testing.T) {
	p := prog(nums(3, -2), row(api.AtMost, 4, 1, 1))
	for _, c := range []struct {
		p    api.Prog
		x    []api.Frac
		want string
	}{
		{p, nums(1, 0), "3"},
		{p, []api.Frac{num(1, 2), num(5, 3)}, "-11/6"},
		{p, []api.Frac{{}, num(-1, 1)}, "2"},
		{p, nums(1), "0"},
		{p, nums(1, 1, 1), "0"},
		{p, nil, "0"},
		{api.Prog{Vars: 3, Goal: nums(1, 1, 1)}, nums(1, 1, 1), "0"},
		{api.Prog{}, nil, "0"},
	} {
		got := plane.Value(c.p, c.x)
		if !frac.Right(got) || frac.Print(got) != c.want {
			t.Error("the value of", c.x, "is", got, "not", c.want)
		}
	}
}

// Fits: the conditions one by one.
func TestFits(t *testing.T) {
	p := prog(nums(1, 1, 1), row(api.AtMost, 4, 1, 1, 0), row(api.Exact, 2, 1, 0, 1), row(api.AtLeast, 1, 0, 1, 0))
	p.Free[2] = true
	for _, c := range []struct {
		x    []api.Frac
		want bool
	}{
		{nums(1, 1, 1), true},
		{nums(3, 1, -1), true},
		{nums(0, 4, 2), true},
		{nums(4, 1, -2), false}, // above at most
		{nums(1, 0, 1), false},  // below at least
		{nums(1, 1, 2), false},  // not exactly
		{nums(1, 1, 0), false},
		{nums(-1, 1, 3), false}, // below 0
		{nums(1, 1), false},
		{nums(1, 1, 1, 1), false},
		{nil, false},
	} {
		if plane.Fits(p, c.x) != c.want {
			t.Error(c.x, "fits:", !c.want)
		}
	}
	p.Rows[0].Sense = 5
	if plane.Fits(p, nums(1, 1, 1)) || plane.Fits(api.Prog{}, nil) {
		t.Error("something fits what is not right")
	}
}

// Value, Fits and Judge stand by their definitions, for any numbers, right or not.
func TestByDefinition(t *testing.T) {
	r := rand.New(rand.NewSource(1))
	agreed := map[bool]int{}
	for range 30000 {
		p := drawSmall(r)
		k := pick{3, true, 0.7}
		list := func(n int) []api.Frac {
			var out []api.Frac
			for range n {
				f := k.draw(r)
				if r.Intn(20) == 0 {
					f = wrongs()[r.Intn(len(wrongs()))]
				}
				out = append(out, f)
			}
			return out
		}
		if r.Intn(4) == 0 && len(p.Rows) > 0 {
			p.Rows[0].A = list(p.Vars)
			p.Goal = list(p.Vars)
			p.Rows[0].B = wrongs()[r.Intn(len(wrongs()))]
		}
		c, _ := plane.Solve(p)
		for range 3 { // spoil a good certificate a little, or not at all
			lists := []*[]api.Frac{&c.X, &c.Y, &c.Ray}
			if l := *lists[r.Intn(3)]; len(l) > 0 && r.Intn(2) == 0 {
				l[r.Intn(len(l))] = list(1)[0]
			}
			if r.Intn(20) == 0 {
				*lists[r.Intn(3)] = list(r.Intn(8))
			}
			if r.Intn(20) == 0 {
				c.Kind = r.Intn(5)
			}
			want := plainJudge(p, c)
			agreed[want]++
			if plane.Judge(p, c) != want || plane.Fits(p, c.X) != plainFits(p, c.X) {
				t.Fatal(p, c, "is judged", !want)
			}
			if len(c.X) == p.Vars && rat(plane.Value(p, c.X)).Cmp(sum(p.Goal, c.X)) != 0 {
				t.Fatal(p, c, "has the value", plane.Value(p, c.X))
			}
		}
	}
	if agreed[true] < 1000 || agreed[false] < 1000 {
		t.Error("too few of a kind:", agreed)
	}
}
