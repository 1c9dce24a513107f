package vine

import (
	"unbent/api"
	"unbent/frac"
)

// planter sets nodes: a question, then all of its Yes, then all of its No.
type planter struct{ nodes []api.Node }

func (p *planter) end(out int, pay []api.Frac) { p.nodes = append(p.nodes, endOf(out, pay)) }

// ask sets a question, behind which its Yes comes, and tells its place.
func (p *planter) ask(agent int, part kinds) int {
	place := len(p.nodes)
	p.nodes = append(p.nodes, api.Node{Agent: agent, Part: part.list(), Yes: place + 1})
	return place
}

// turn lets the No of a question come next.
func (p *planter) turn(place int) { p.nodes[place].No = len(p.nodes) }

// endOf is an end in memory of its own.
func endOf(out int, pay []api.Frac) api.Node {
	return api.Node{Agent: noAgent, Out: out, Pay: fixed(pay)}
}

// fixed is numbers in memory of their own, all of them right.
func fixed(l []api.Frac) []api.Frac {
	out := make([]api.Frac, len(l))
	for i, f := range l {
		out[i] = frac.Fix(f)
	}
	return out
}

func one() api.Frac {
	f, _ := frac.Make(1, 1)
	return f
}

func isOne(f api.Frac) bool { return frac.Cmp(f, one()) == 0 }

// single is numbers that are 0, but for one of them.
func single(n, at int, f api.Frac) []api.Frac {
	out := fixed(make([]api.Frac, n))
	out[at] = frac.Fix(f)
	return out
}

// sure is the lottery of one outcome.
func sure(outs, out int) []api.Frac { return single(outs, out, one()) }
