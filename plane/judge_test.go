package plane_test

import (
	"testing"

	"unbent/api"
	"unbent/frac"
	"unbent/plane"
)

// judged is a program, certificates that prove their kind, and others that do not.
type judged struct {
	p         api.Prog
	good, bad []api.Cert
}

// freed is p with some variables free.
func freed(p api.Prog, vars ...int) api.Prog {
	for _, v := range vars {
		p.Free[v] = true
	}
	return p
}

func best(x, y []api.Frac) api.Cert { return api.Cert{Kind: api.Best, X: x, Y: y} }

func none(y ...int) api.Cert { return api.Cert{Kind: api.None, Y: nums(y...)} }

func endless(x, ray []api.Frac) api.Cert { return api.Cert{Kind: api.Endless, X: x, Ray: ray} }

// Judge: each condition of each kind, kept and broken; the document's examples among them.
func TestJudge(t *testing.T) {
	first := prog(nums(3, 2), row(api.AtMost, 4, 1, 1), row(api.AtMost, 3, 1, 0))
	for i, c := range []judged{
		{first, []api.Cert{best(nums(3, 1), nums(2, 1)), {Kind: api.Best, X: nums(3, 1), Y: nums(2, 1), Ray: nums(1)}},
			[]api.Cert{best(nums(3, 0), nums(2, 1)), best(nums(4, 0), nums(2, 1)), best(nums(3, 1), nums(3, 0)), best(nums(3, 1), nums(1, 2)), best(nums(3, 1), nums(2)), best(nums(3), nums(2, 1)), best(nums(3, 1), nums(2, 1, 0)), best(nil, nil), none(2, 1), endless(nums(3, 1), nums(1, 1)), {X: nums(3, 1), Y: nums(2, 1)}, {Kind: 4, X: nums(3, 1), Y: nums(2, 1)}, {Kind: -1}}},
		{prog(nums(0)), []api.Cert{best(nums(5), nil), best(nums(0), []api.Frac{})}, []api.Cert{best(nums(-1), nil), best(nums(5), nums(0)), none(), endless(nums(5), nums(1))}},
		{prog(nums(1)), []api.Cert{endless(nums(0), nums(1)), {Kind: api.Endless, X: nums(7), Ray: nums(2), Y: nums(1, 1)}}, []api.Cert{endless(nums(-1), nums(1)), endless(nums(0), nums(0)), endless(nums(0), nums(-1)), endless(nums(0), nil), endless(nil, nums(1)), endless(nums(0), nums(1, 1)), best(nums(0), nil)}},
		{prog(nums(1), row(api.AtMost, -1, 1)), []api.Cert{none(1), none(5), {Kind: api.None, X: nums(9), Y: nums(1), Ray: nums(9)}}, []api.Cert{none(-1), none(0), none(), none(1, 0), best(nums(-1), nums(1))}},
		{freed(prog(nums(1), row(api.AtMost, -1, 1)), 0), []api.Cert{best(nums(-1), nums(1))}, []api.Cert{none(1), best(nums(-2), nums(1)), best(nums(-1), nums(2))}},
		{prog(nums(-1), row(api.AtLeast, 2, 1)), []api.Cert{best(nums(2), nums(-1))}, []api.Cert{best(nums(3), nums(-1)), best(nums(2), nums(1)), best(nums(2), nums(-2))}},
		{prog(nums(2, 1), row(api.Exact, 2, 1, 1)), []api.Cert{best(nums(2, 0), nums(2))}, []api.Cert{best(nums(2, 1), nums(2)), best(nums(1, 1), nums(2)), best(nums(1, 1), []api.Frac{num(3, 2)}), best(nums(2, 0), nums(1))}},
		{prog(nums(-2, -3), row(api.Exact, 2, 1, 1)), []api.Cert{best(nums(2, 0), nums(-2))}, []api.Cert{best(nums(0, 2), nums(-3))}},
		{prog(nums(0), row(api.Exact, 2, 1), row(api.Exact, 3, 1)), []api.Cert{none(1, -1), none(2, -2)}, []api.Cert{none(-1, 1), none(1, 1), none(0, -1)}},
		{prog(nums(0), row(api.AtLeast, 2, 1), row(api.AtMost, 1, 1)), []api.Cert{none(-1, 1)}, []api.Cert{none(1, -1), none(-1, 0), none(-2, 1), none(0, 1)}},
		{freed(prog(nums(0), row(api.AtLeast, 2, 1), row(api.AtMost, 1, 1)), 0), []api.Cert{none(-1, 1), none(-3, 3)}, []api.Cert{none(-1, 2), none(-2, 3), none(-2, 1)}},
		{prog(nums(1, 0), row(api.AtMost, 1, 1, -1)), []api.Cert{endless(nums(1, 0), nums(1, 1)), endless(nums(0, 0), nums(2, 3))}, []api.Cert{endless(nums(2, 0), nums(1, 1)), endless(nums(0, 0), nums(3, 2)), endless(nums(0, 0), nums(0, 1))}},
		{prog(nums(1, 0), row(api.Exact, 1, 1, -1), row(api.AtLeast, 0, 1, 0)), []api.Cert{endless(nums(1, 0), nums(1, 1))}, []api.Cert{endless(nums(0, 0), nums(1, 1)), endless(nums(1, 0), nums(1, 2)), endless(nums(1, 0), nums(2, 1))}},
		{freed(prog(nums(-1, 0), row(api.AtLeast, -5, 0, 1)), 0), []api.Cert{endless(nums(0, 0), nums(-1, 0)), endless(nums(3, 0), nums(-2, 5))}, []api.Cert{endless(nums(0, 0), nums(1, 0)), endless(nums(0, 0), nums(-1, -1))}},
	} {
		for _, good := range c.good {
			if !plane.Judge(c.p, good) {
				t.Error(i, "does not take", good)
			}
		}
		for _, bad := range c.bad {
			if plane.Judge(c.p, bad) {
				t.Error(i, "takes", bad)
			}
		}
	}
}

// A program that is not right has no certificate.
func TestJudgeWrong(t *testing.T) {
	p := prog(nums(1), row(api.AtMost, -1, 1))
	p.Rows[0].Sense = 2
	if plane.Judge(p, none(1)) || plane.Judge(api.Prog{}, best(nil, nil)) || plane.Judge(many(api.MaxVars+1, 0), best(make([]api.Frac, api.MaxVars+1), nil)) {
		t.Error("a certificate of a program that is not right is taken")
	}
}

// Each fraction of an argument stands for Fix of it.
func TestFixedFractions(t *testing.T) {
	for _, f := range wrongs() {
		p := api.Prog{Vars: 2, Free: []bool{false, false}, Goal: []api.Frac{num(1, 1), f}, Rows: []api.Row{{A: []api.Frac{num(1, 1), f}, B: f, Sense: api.AtMost}}}
		if !plane.Judge(p, best([]api.Frac{f, f}, nums(1))) {
			t.Error(f, "does not stand for 0")
		}
		c, e := plane.Solve(p)
		if e != api.OK || c.Kind != api.Best || frac.Sign(plane.Value(p, c.X)) != 0 {
			t.Error("a program with", f, "is told", c, e)
		}
	}
}

// The largest programs that are right can be judged.
func TestJudgeLarge(t *testing.T) {
	p := many(api.MaxVars, api.MaxRows)
	x, y := nums(make([]int, api.MaxVars)...), nums(make([]int, api.MaxRows)...)
	for v := range p.Vars {
		p.Goal[v] = num(v, 7)
		p.Rows[v].A[v] = num(v+1, 3)
		p.Rows[v].Sense = api.AtMost
		p.Rows[v].B = num(1, 1)
		x[v] = num(3, v+1)
		y[v] = num(3*v, 7*(v+1))
	}
	if !plane.Judge(p, best(x, y)) {
		t.Error("a large proof is refused")
	}
	y[77] = num(0, 1)
	if plane.Judge(p, best(x, y)) {
		t.Error("a large proof with a gap is taken")
	}
}
