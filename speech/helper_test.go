package speech_test

import (
	"math/rand"
	"strings"
	"testing"

	"unbent/api"
	"unbent/frac"
	"unbent/speech"
)

// Example 1 of the chapter.
const first = `game pay lots total
outs none one two
agent ann
kind low 1/2 0 0 1 0
kind high 1/2 0 0 3 0
agent bob
kind any 1 0 0 0 2
part
`

// every has all kinds of lines.
const every = `game pay lots worst
outs none ann bob both
agent ann
kind low 1/3 0 0 1 0 1/2
kind high 2/3 -1 0 3 0 3/2
agent bob
kind low 1/4 0 0 0 -7/5 1
kind mid 1/4 0 0 0 2 1
kind high 1/2 0 0 0 3 1
part
budget
even
bound 7/2
envy ann bob none bob ann both
order ann ann both
order bob bob
order bob bob
`

func game(t *testing.T, text string) api.Game {
	t.Helper()
	g, e, line := speech.Parse(text)
	if e != api.OK || line != 0 {
		t.Fatalf("%q: error %d, line %d", text, e, line)
	}
	return g
}

func num(p, q int) api.Frac {
	f, e := frac.Make(p, q)
	if e != api.OK {
		panic("no fraction")
	}
	return f
}

func nums(l ...int) []api.Frac {
	var out []api.Frac
	for _, n := range l {
		out = append(out, num(n, 1))
	}
	return out
}

// wrong is a fraction that is not right: 2/2. Its Fix is 0.
func wrong() api.Frac { return api.Frac{Num: []uint32{2}, Den: []uint32{2}} }

// drawNumber is a number of up to 40 digits above and below.
func drawNumber(r *rand.Rand) api.Frac {
	digits := func() string {
		out := []byte{byte('1' + r.Intn(9))}
		for range r.Intn([]int{1, 2, 40}[r.Intn(3)]) {
			out = append(out, byte('0'+r.Intn(10)))
		}
		return string(out)
	}
	for {
		num, _ := frac.Parse(digits())
		den, _ := frac.Parse(digits())
		f, _ := frac.Div(num, den)
		if g, e := frac.Parse(frac.Print(f)); e == api.OK {
			return [...]api.Frac{g, frac.Neg(g), {}, num}[r.Intn(4)]
		}
	}
}

func drawNumbers(r *rand.Rand, n int) []api.Frac {
	var out []api.Frac
	for range n {
		out = append(out, drawNumber(r))
	}
	return out
}

// drawNames is so many names, no two the same.
func drawNames(r *rand.Rand, n int) []string {
	var out []string
	for len(out) < n {
		var name strings.Builder
		for range 1 + r.Intn(12) {
			name.WriteByte("abyz"[r.Intn(4)])
		}
		if !strings.Contains(" "+strings.Join(out, " ")+" ", " "+name.String()+" ") {
			out = append(out, name.String())
		}
	}
	return out
}

func drawKinds(r *rand.Rand, n, outs int) []api.Kind {
	var out []api.Kind
	for _, name := range drawNames(r, n) {
		k := api.Kind{Name: name, Weight: drawNumber(r), Alone: drawNumber(r), Worth: drawNumbers(r, outs)}
		if frac.Sign(k.Weight) < 0 {
			k.Weight = frac.Neg(k.Weight)
		}
		out = append(out, k)
	}
	return out
}

// drawNeed is a need that is right by itself.
func drawNeed(r *rand.Rand, agents, outs int) api.Need {
	n := api.Need{Kind: 1 + r.Intn(6)}
	if n.Kind == api.NeedEnvy && agents == 1 {
		n.Kind = api.NeedOrder
	}
	switch n.Kind {
	case api.NeedBound:
		n.Bound = num(r.Intn(9), 1+r.Intn(9))
	case api.NeedEnvy:
		n.Other = 1 + r.Intn(agents-1)
		n.Agent = r.Intn(n.Other)
		n.Swap = r.Perm(outs)
		for !turnsBack(n.Swap) {
			n.Swap = r.Perm(outs)
		}
	case api.NeedOrder:
		n.Agent = r.Intn(agents)
		for o := range outs {
			if r.Intn(2) == 0 {
				n.Outs = append(n.Outs, o)
			}
		}
		if n.Outs == nil {
			n.Outs = []int{outs - 1}
		}
	}
	return n
}

func turnsBack(swap []int) bool {
	for o := range swap {
		if swap[swap[o]] != o {
			return false
		}
	}
	return true
}

// drawGame is any right game.
func drawGame(r *rand.Rand) api.Game {
	outs := 1 + r.Intn(6)
	g := api.Game{Outs: drawNames(r, outs), Pay: r.Intn(2) == 0, Lots: r.Intn(2) == 0, Aim: 1 + r.Intn(3)}
	left := 16
	for _, name := range drawNames(r, 1+r.Intn(4)) {
		n := 1 + r.Intn(min(4, left))
		left /= n
		g.Agents = append(g.Agents, api.Agent{Name: name, Kinds: drawKinds(r, n, outs)})
	}
	came := map[[3]int]bool{}
	for range r.Intn(13) {
		n := drawNeed(r, len(g.Agents), outs)
		key := [3]int{n.Kind, n.Agent, n.Other}
		if n.Kind == api.NeedOrder || !came[key] {
			g.Needs = append(g.Needs, n)
		}
		came[key] = true
	}
	return g
}

// drawLot is chances of so many outcomes.
func drawLot(r *rand.Rand, outs int, lots bool) []api.Frac {
	out := nums(make([]int, outs)...)
	sure := r.Intn(outs)
	out[sure] = num(1, 1)
	if other := r.Intn(outs); lots && other != sure {
		out[other] = num(1+r.Intn(7), 9)
		out[sure] = frac.Sub(out[sure], out[other])
	}
	return out
}

// drawRule is a rule that fits a right game.
func drawRule(r *rand.Rand, g api.Game) api.Rule {
	var out api.Rule
	for range speech.Profiles(g) {
		c := api.Cell{Lot: drawLot(r, len(g.Outs), g.Lots), Pay: nums(make([]int, len(g.Agents))...)}
		if g.Pay {
			c.Pay = drawNumbers(r, len(g.Agents))
		}
		out.Cells = append(out.Cells, c)
	}
	return out
}
