package vine_test

import (
	"math/rand"
	"slices"
	"testing"

	"unbent/api"
	"unbent/frac"
	"unbent/speech"
	"unbent/vine"
)

// drawAny is any fraction at all, right or not.
func drawAny(r *rand.Rand) api.Frac {
	list := func() []uint32 {
		var out []uint32
		for range r.Intn(3) {
			out = append(out, uint32(r.Intn(3)))
		}
		return out
	}
	return api.Frac{Neg: r.Intn(2) == 0, Num: list(), Den: list()}
}

// anyInt is a number as trees have them, or beside it, or far off.
func anyInt(r *rand.Rand) int {
	if r.Intn(8) == 0 {
		return []int{-1 << 63, 1<<63 - 1, 1 << 32, -1 << 31, 64, -64}[r.Intn(6)]
	}
	return r.Intn(7) - 2
}

func anyInts(r *rand.Rand, list []int) []int {
	switch out := slices.Clone(list); r.Intn(5) {
	case 0:
		return nil
	case 1:
		return append(out, anyInt(r))
	case 2:
		return out[:len(out)/2]
	default:
		if len(out) > 0 {
			out[r.Intn(len(out))] = anyInt(r)
		}
		return out
	}
}

func anyFracs(r *rand.Rand, list []api.Frac) []api.Frac {
	out := slices.Clone(list)
	if r.Intn(4) == 0 || len(out) == 0 {
		return append(out, drawAny(r))
	}
	out[r.Intn(len(out))] = drawAny(r)
	return out[r.Intn(5)/4:]
}

// handed is what functions are handed.
type handed struct {
	g       api.Game
	v       api.Vine
	r       api.Rule
	profile []int
	cell    [][]int
	values  []api.Frac
	n       int
}

func drawHanded(r *rand.Rand) *handed {
	g := drawGame(r, drawSort(r))
	h := &handed{g: g, v: copiedVine(drawVine(r, g)), r: drawPlain(r, g), n: 1 + r.Intn(3)}
	all := speech.Profiles(g)
	h.profile = all[r.Intn(len(all))]
	for _, kinds := range allOf(g) {
		h.cell = append(h.cell, subsets(kinds)[1+r.Intn(1<<len(kinds)-1)])
	}
	h.values = slices.Clone(rising[r.Intn(3):])
	h.values = h.values[:1+r.Intn(len(h.values))]
	return h
}

// spoil changes something of what is handed, so that it may be anything.
func spoil(r *rand.Rand, h *handed) {
	switch r.Intn(9) {
	case 0:
		agent := &h.g.Agents[r.Intn(len(h.g.Agents))]
		kind := &agent.Kinds[r.Intn(len(agent.Kinds))]
		kind.Weight, kind.Worth = drawAny(r), anyFracs(r, kind.Worth)
	case 1:
		h.g.Aim, h.g.Pay = r.Intn(5), !h.g.Pay
	case 2:
		spoilVine(r, &h.v)
	case 3:
		if len(h.v.Nodes) > 0 {
			n := &h.v.Nodes[r.Intn(len(h.v.Nodes))]
			*n = api.Node{Agent: anyInt(r), Part: anyInts(r, n.Part), Yes: anyInt(r), No: anyInt(r), Out: anyInt(r), Pay: n.Pay}
		}
	case 4:
		if len(h.r.Cells) > 0 {
			c := &h.r.Cells[r.Intn(len(h.r.Cells))]
			c.Lot, c.Pay = anyFracs(r, c.Lot), anyFracs(r, c.Pay)
		}
	case 5:
		h.r.Cells = h.r.Cells[len(h.r.Cells)/2:]
	case 6:
		h.profile = anyInts(r, h.profile)
	case 7:
		if len(h.cell) > 0 && r.Intn(8) > 0 {
			at := r.Intn(len(h.cell))
			h.cell[at] = anyInts(r, h.cell[at])
		} else {
			h.cell = make([][]int, r.Intn(6))
		}
	default:
		h.values, h.n = anyFracs(r, h.values), anyInt(r)
	}
}

// told is all that the functions tell: whole numbers, fractions; and of each function the error, and whether nothing else is told.
type told struct {
	ints    [][]int
	fracs   [][]api.Frac
	errors  []api.Errno
	nothing []bool
}

func (l *told) addVine(v api.Vine) {
	for _, n := range v.Nodes {
		l.ints = append(l.ints, []int{n.Agent, n.Yes, n.No, n.Out}, n.Part)
		l.fracs = append(l.fracs, n.Pay)
	}
}

func (l *told) addGame(g api.Game) {
	for _, a := range g.Agents {
		for _, k := range a.Kinds {
			l.fracs = append(l.fracs, k.Worth, []api.Frac{k.Weight, k.Alone})
		}
	}
}

// tellAll calls all functions of the package.
func tellAll(h *handed) told {
	e1 := vine.Right(h.g, h.v)
	at, path, e2 := vine.Play(h.g, h.v, h.profile)
	law, e3 := vine.RuleOf(h.g, h.v)
	d, obvious := vine.Obvious(h.g, h.v)
	v, stuck, ok, e4 := vine.Grow(h.g, h.r)
	isStuck := vine.Stuck(h.g, h.r, h.cell)
	sale, clock, e5 := vine.Clock(h.values, h.n)
	out := told{
		ints:    append([][]int{{at, d.Node, d.Kind}, path}, stuck...),
		fracs:   [][]api.Frac{{d.Best, d.Worst}},
		errors:  []api.Errno{e1, e2, e3, e4, e5},
		nothing: []bool{d.Node == -1 && !obvious, at == 0 && path == nil, law.Cells == nil, v.Nodes == nil && stuck == nil && !ok && !isStuck, sale.Agents == nil && sale.Outs == nil && clock.Nodes == nil},
	}
	for _, c := range law.Cells {
		out.fracs = append(out.fracs, c.Lot, c.Pay)
	}
	out.addVine(v)
	out.addVine(clock)
	out.addGame(sale)
	for _, yes := range []bool{obvious, ok, isStuck} {
		out.ints = append(out.ints, []int{map[bool]int{true: 1}[yes]})
	}
	return out
}

func sameFracs(a, b [][]api.Frac) bool { return slices.EqualFunc(a, b, areRightly) }

func sameTold(a, b told) bool {
	return sameLists(a.ints, b.ints) && sameFracs(a.fracs, b.fracs) && slices.Equal(a.errors, b.errors)
}

// P1: no function panics, whatever it is handed; what is told is right, and nothing is told with an error.
func TestAnything(t *testing.T) {
	r := rand.New(rand.NewSource(92))
	errors := map[api.Errno]int{}
	for range 20000 {
		h := drawHanded(r)
		for range r.Intn(4) {
			spoil(r, h)
		}
		if r.Intn(100) == 0 {
			h = &handed{}
		}
		all := tellAll(h)
		for _, l := range all.fracs {
			for _, f := range l {
				if !frac.Right(f) {
					t.Fatal("not right:", f)
				}
			}
		}
		for which, e := range all.errors {
			errors[e]++
			if e != api.OK && !all.nothing[which] {
				t.Fatal("told with an error", which, e, all)
			}
		}
	}
	for _, e := range []api.Errno{api.OK, api.ErrSize, api.ErrGame, api.ErrRule, api.ErrVine} {
		if errors[e] < 10 {
			t.Error("error", e, errors[e])
		}
	}
	if len(errors) != 5 {
		t.Error("other errors", errors)
	}
}

// fracs is all lists of numbers of what is handed.
func (h *handed) fracs() [][]api.Frac {
	out := [][]api.Frac{h.values}
	for _, a := range h.g.Agents {
		for _, k := range a.Kinds {
			out = append(out, k.Worth)
		}
	}
	for _, n := range h.v.Nodes {
		out = append(out, n.Pay)
	}
	for _, c := range h.r.Cells {
		out = append(out, c.Lot, c.Pay)
	}
	return out
}

// Numbers that are not right are 0, wherever they stand.
func TestFix(t *testing.T) {
	r := rand.New(rand.NewSource(93))
	fixed := 0
	for range 1000 {
		h := drawHanded(r)
		before := tellAll(h)
		for _, l := range h.fracs() {
			for i := range l {
				if frac.Sign(l[i]) == 0 {
					l[i] = []api.Frac{wrong(), {}, {Neg: true, Den: []uint32{1}}, {Num: []uint32{0}, Den: []uint32{1}}}[r.Intn(4)]
					fixed++
				}
			}
		}
		if !sameTold(tellAll(h), before) {
			t.Fatal("something else is told", h)
		}
	}
	if fixed < 1000 {
		t.Error("wrong numbers", fixed)
	}
}

// copiedFracs is lists of lists in memory of their own.
func copiedFracs(lists [][]api.Frac) [][]api.Frac {
	var out [][]api.Frac
	for _, l := range lists {
		var own []api.Frac
		for _, f := range l {
			own = append(own, api.Frac{Neg: f.Neg, Num: slices.Clone(f.Num), Den: slices.Clone(f.Den)})
		}
		out = append(out, own)
	}
	return out
}

// written is what tests write over what was told.
const written = 123456789

// overwrite writes over all that lists have, also behind their ends, and reports whether some of it had been written over already.
func overwrite(l told) bool {
	twice := false
	for _, ints := range l.ints {
		ints = ints[:cap(ints)]
		for i := range ints {
			twice = twice || ints[i] == written
			ints[i] = written
		}
	}
	for _, fracs := range l.fracs {
		for _, f := range fracs {
			for _, words := range [][]uint32{f.Num[:cap(f.Num)], f.Den[:cap(f.Den)]} {
				for i := range words {
					twice = twice || words[i] == written
					words[i] = written
				}
			}
		}
		fracs = fracs[:cap(fracs)]
		for i := range fracs {
			twice = twice || len(fracs[i].Den) == 7
			fracs[i] = api.Frac{Den: make([]uint32, 7)}
		}
	}
	return twice
}

// No function changes what it is handed, not even behind its end, and no result shares memory with it or with another part of it.
func TestMemory(t *testing.T) {
	r := rand.New(rand.NewSource(94))
	for range 1000 {
		h := drawHanded(r)
		roomy := append(append(make([]int, 0, 40), h.profile...), 5, 5, 5, 5)
		h.profile = roomy[:len(h.profile)]
		text, kept := speech.Print(h.g), copiedFracs(h.fracs())
		tree, cell, room := copiedVine(h.v), slices.Clone(h.cell), slices.Clone(roomy)
		for a := range cell {
			cell[a] = slices.Clone(cell[a])
		}
		if overwrite(tellAll(h)) {
			t.Fatal("parts of results share memory", h)
		}
		if speech.Print(h.g) != text || !sameFracs(h.fracs(), kept) || !sameVine(h.v, tree) || !sameLists(h.cell, cell) || !slices.Equal(roomy, room) {
			t.Fatal("changed", h)
		}
	}
}

// Numbers are compared as they are, however long; what is too long to be told is 0.
func TestLong(t *testing.T) {
	g := game(t, "game pay total\nouts u v\nagent ann\nkind a 1 0 0 0\nkind b 1 0 0 0\n")
	most := long(api.MaxWords - 1)
	less := frac.Sub(most, num(1, 1))
	g.Agents[0].Kinds[1].Worth = []api.Frac{less, most}
	v := vineOf(ask(0, []int{0}, 1, 2), end(0, 0), end(1, 0))
	if d, ok := vine.Obvious(g, v); !ok {
		t.Error("b has the more", d.Node, d.Kind)
	}
	v.Nodes[1].Out, v.Nodes[2].Out = 1, 0
	if d, ok := vine.Obvious(g, v); ok || !isDoubt(d, 0, 1, most, less) {
		t.Error("b has the less", d.Node, d.Kind, ok)
	}
	v.Nodes[1].Pay[0], v.Nodes[2].Pay[0] = num(2, 1), num(1, 2)
	if d, ok := vine.Obvious(g, v); ok || !isDoubt(d, 0, 0, num(-1, 2), num(-2, 1)) {
		t.Error("a pays the more", d.Node, d.Kind, ok)
	}
	tiny := inverse(long(2040))
	v.Nodes[1].Pay[0], v.Nodes[2].Pay[0] = tiny, tiny
	g.Agents[0].Kinds[1].Worth = []api.Frac{num(0, 1), inverse(frac.Add(long(2040), num(1, 1)))}
	if d, ok := vine.Obvious(g, v); ok || d.Kind != 1 || !isRightly(d.Worst, frac.Neg(tiny)) {
		t.Error("uses of long denominators", d.Node, d.Kind, ok)
	}
	g.Agents[0].Kinds[1].Worth[1] = most
	if d, ok := vine.Obvious(g, v); ok || !isDoubt(d, 0, 1, num(0, 1), frac.Neg(tiny)) {
		t.Error("a use that is too long", d.Node, d.Kind, ok)
	}
}

// A great game of long numbers is gone through in the end.
func TestManyLong(t *testing.T) {
	r := rand.New(rand.NewSource(95))
	var values []api.Frac
	for i := range 4 {
		values = append(values, frac.Add(num(i, 1), inverse(long(1000+i))))
	}
	g, v := clock(t, values, 2)
	for _, n := range v.Nodes {
		for a := range n.Pay {
			n.Pay[a] = frac.Add(n.Pay[a], inverse(long(800+r.Intn(9))))
		}
	}
	law := ruleOf(t, g, v)
	_, stuck, ok, e := vine.Grow(g, law)
	if e != api.OK || ok && len(stuck) > 0 || !ok && !vine.Stuck(g, law, stuck) {
		t.Error(stuck, ok, e)
	}
	vine.Obvious(g, v)
	g, v = clock(t, values, 2)
	if _, ok := vine.Obvious(g, v); !ok {
		t.Error("a clock of long values")
	}
	if w, _, ok, _ := vine.Grow(g, ruleOf(t, g, v)); !ok || !sameRule(ruleOf(t, g, w), ruleOf(t, g, v)) {
		t.Error("a rule of long values")
	}
}
