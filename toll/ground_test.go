package toll_test

import (
	"math/rand"
	"slices"
	"testing"

	"unbent/api"
	"unbent/frac"
	"unbent/speech"
	"unbent/toll"
)

// handed is all that functions of the package are handed.
type handed struct {
	m    api.Menu
	s    api.Steps
	b    api.Bidder
	bs   []api.Bidder
	g    api.Game
	pays []api.Frac
	ints []int
	v    api.Frac
}

// drawAny is any value at all, right or not.
func drawAny(r *rand.Rand) api.Frac {
	list := func() []uint32 {
		var out []uint32
		for range r.Intn(3) {
			out = append(out, uint32(r.Intn(3)))
		}
		return out
	}
	return api.Frac{Neg: r.Intn(2) == 0, Num: list(), Den: list()}
}

func drawAll(r *rand.Rand, most int) []api.Frac {
	var out []api.Frac
	for range r.Intn(most) {
		out = append(out, drawAny(r))
	}
	return out
}

// drawHanded is what may all be right, but for its kinds' places.
func drawHanded(r *rand.Rand) handed {
	h := handed{s: drawSteps(r, 4), b: drawBidder(r, 1+r.Intn(5)), bs: drawBidders(r), g: drawGame(r), v: drawSmall(r, 5)}
	h.m, h.pays = drawOffer(r, 1+r.Intn(4), 1+r.Intn(3))
	if r.Intn(2) == 0 {
		h.m = drawMenu(r, len(h.pays), 1+r.Intn(3))
	}
	if r.Intn(2) == 0 {
		h.pays, _ = toll.Tolls(h.s)
	}
	for range 2 + r.Intn(3) {
		h.ints = append(h.ints, r.Intn(len(h.m.Worth)))
	}
	return h
}

// spoil changes a list of numbers, so that it may be anything.
func spoil(r *rand.Rand, l *[]api.Frac) {
	switch n := len(*l); r.Intn(4) {
	case 0:
		*l = drawAll(r, 6)
	case 1:
		*l = append(*l, drawAny(r))
	case 2:
		*l = (*l)[:n/2]
	default:
		if n > 0 {
			(*l)[r.Intn(n)] = drawAny(r)
		}
	}
}

// spoilHanded changes something of what is handed.
func spoilHanded(r *rand.Rand, h *handed) {
	one := &h.bs[r.Intn(len(h.bs))]
	kind := r.Intn(len(h.m.Lots))
	agent := h.g.Agents[r.Intn(len(h.g.Agents))]
	lists := []*[]api.Frac{&h.m.Worth[kind], &h.m.Lots[kind], &h.s.Cuts, &h.s.Shares, &h.b.Values, &h.b.Weights, &one.Values, &one.Weights, &h.pays, &agent.Kinds[0].Worth}
	spoil(r, lists[r.Intn(len(lists))])
	switch r.Intn(6) {
	case 0:
		h.v, h.s.Low = drawAny(r), drawAny(r)
	case 1:
		h.ints = append(h.ints, r.Intn(9)-2)
	case 2:
		h.ints[r.Intn(2)] = r.Intn(9) - 2
	case 3:
		h.m.Lots = h.m.Lots[:1+r.Intn(len(h.m.Lots))]
	}
}

// cellLists is the lists of a rule's cells.
func cellLists(r api.Rule) [][]api.Frac {
	var out [][]api.Frac
	for _, c := range r.Cells {
		out = append(out, c.Lot, c.Pay)
	}
	return out
}

func gameLists(g api.Game) [][]api.Frac {
	var out [][]api.Frac
	for _, a := range g.Agents {
		for _, k := range a.Kinds {
			out = append(out, []api.Frac{k.Weight, k.Alone}, k.Worth)
		}
	}
	for _, n := range g.Needs {
		out = append(out, []api.Frac{n.Bound})
	}
	return out
}

// tellAll calls all functions of the package: the lists of numbers that they tell, and the other lists.
func tellAll(h handed) ([][]api.Frac, [][]int) {
	pays, cycle, _, _ := toll.Pays(h.m)
	tolls, _ := toll.Tolls(h.s)
	virtual, _ := toll.Virtual(h.b)
	ironed, _ := toll.Ironed(h.b)
	auction, _ := toll.Auction(h.bs)
	clarke, _ := toll.Clarke(h.g)
	g, _ := toll.GameOf(h.bs)
	share, _ := toll.At(h.s, h.v)
	area, _ := toll.Area(h.s, h.v)
	bend, _ := toll.Bent(h.s, h.pays)
	toll.Honest(h.m, h.pays)
	toll.Rising(h.s)
	out := [][]api.Frac{pays, tolls, virtual, ironed, {toll.Gain(h.m, h.ints), share, area, bend.True, bend.Told, bend.Gain}}
	if low, high, e := toll.Spread(h.m, h.ints[0], h.ints[1]); e == api.OK {
		out = append(out, []api.Frac{low, high})
	}
	return slices.Concat(out, gameLists(g), cellLists(auction), cellLists(clarke)), [][]int{cycle}
}

// P1: no function panics, whatever it is handed; what is told is right.
func TestAnything(t *testing.T) {
	r := rand.New(rand.NewSource(101))
	for range 3000 {
		h := drawHanded(r)
		for range r.Intn(4) {
			spoilHanded(r, &h)
		}
		if r.Intn(50) == 0 {
			h.m, h.s, h.b, h.bs, h.g = api.Menu{}, api.Steps{}, api.Bidder{}, nil, api.Game{}
		}
		lists, _ := tellAll(h)
		for _, l := range lists {
			for _, f := range l {
				if !frac.Right(f) {
					t.Fatal("not right:", f)
				}
			}
		}
	}
}

// lists is all lists of numbers of what is handed.
func (h *handed) lists() [][]api.Frac {
	out := [][]api.Frac{h.s.Cuts, h.s.Shares, h.b.Values, h.b.Weights, h.pays}
	for _, b := range h.bs {
		out = append(out, b.Values, b.Weights)
	}
	for _, a := range h.g.Agents {
		for _, k := range a.Kinds {
			out = append(out, k.Worth)
		}
	}
	return slices.Concat(out, h.m.Worth, h.m.Lots)
}

// copied is a list of lists in memory of its own.
func copied(lists [][]api.Frac) [][]api.Frac {
	var out [][]api.Frac
	for _, l := range lists {
		var own []api.Frac
		for _, f := range l {
			own = append(own, api.Frac{Neg: f.Neg, Num: slices.Clone(f.Num), Den: slices.Clone(f.Den)})
		}
		out = append(out, own)
	}
	return out
}

func sameLists(a, b [][]api.Frac) bool { return slices.EqualFunc(a, b, areRightly) }

// Numbers that are not right are 0, wherever they stand.
func TestFix(t *testing.T) {
	r := rand.New(rand.NewSource(102))
	fix := func(f *api.Frac) bool {
		is := frac.Sign(*f) == 0
		if is {
			*f = wrong()
		}
		return is
	}
	fixed := 0
	for range 500 {
		h := drawHanded(r)
		told, cycles := tellAll(h)
		kind, lie, ok := toll.Honest(h.m, h.pays)
		rises := toll.Rising(h.s)
		for _, l := range h.lists() {
			for i := range l {
				if fix(&l[i]) {
					fixed++
				}
			}
		}
		fix(&h.v)
		fix(&h.s.Low)
		fix(&h.s.High)
		for _, a := range h.g.Agents {
			for k := range a.Kinds {
				fix(&a.Kinds[k].Weight)
				fix(&a.Kinds[k].Alone)
			}
		}
		again, others := tellAll(h)
		if !sameLists(again, told) || !slices.EqualFunc(cycles, others, slices.Equal) {
			t.Fatal("something else is told", h)
		}
		if k, l, o := toll.Honest(h.m, h.pays); k != kind || l != lie || o != ok || toll.Rising(h.s) != rises {
			t.Fatal("Honest or Rising", h)
		}
	}
	if fixed < 1000 {
		t.Error("wrong numbers", fixed)
	}
}

// What is told is exact as long as it is not too long, however long its parts are; what is longer is 0.
func TestLong(t *testing.T) {
	most := long(api.MaxWords - 1)
	part := num(1, 1<<40) // of most too long to be told
	rest := frac.Sub(num(1, 1), frac.Add(part, part))
	m := api.Menu{Worth: [][]api.Frac{{most, frac.Sub(num(1, 1), most), num(0, 1)}, nums(0, 0, 0)}, Lots: [][]api.Frac{nums(0, 0, 1), {part, part, rest}}}
	if got := toll.Gain(m, []int{0, 1}); !isRightly(got, part) {
		t.Error("Gain of long parts")
	}
	if kind, told, ok := toll.Honest(m, nums(0, 0)); kind != 0 || told != 1 || ok {
		t.Error("Honest of long parts", kind, told, ok)
	}
	m.Lots = [][]api.Frac{nums(0, 0, 1), nums(1, 0, 0)}
	pays, _, ok, e := toll.Pays(m)
	if ok || e != api.OK {
		t.Error("a long worth", len(pays), e)
	}
	m.Worth[1] = m.Worth[0]
	if pays, _, ok, e := toll.Pays(m); !ok || e != api.OK || !isRightly(pays[1], most) {
		t.Error("a long payment", ok, e)
	}
	tiny := frac.Mul(part, part)
	s := api.Steps{Low: num(0, 1), High: most, Cuts: nums(1), Shares: []api.Frac{tiny, tiny}}
	if got, ok := toll.Area(s, most); !ok || !isRightly(got, num(0, 1)) {
		t.Error("an area that is too long", ok)
	}
	s.Low, s.Cuts[0] = frac.Sub(most, num(2, 1)), frac.Sub(most, num(1, 1))
	s.Shares = []api.Frac{long(3000), frac.Neg(long(3000))}
	if got, ok := toll.Area(s, most); !ok || !isRightly(got, num(0, 1)) {
		t.Error("an area of 0", ok)
	}
	if got, ok := toll.Area(s, s.Cuts[0]); !ok || !isRightly(got, long(3000)) {
		t.Error("an area of long parts", ok)
	}
	b := api.Bidder{Values: []api.Frac{frac.Sub(most, num(1, 1)), most}, Weights: []api.Frac{num(1, 1), long(2000)}}
	if got, e := toll.Virtual(b); e != api.OK || !isRightly(got[0], frac.Sub(frac.Sub(most, num(1, 1)), long(2000))) || !isRightly(got[1], most) {
		t.Error("long virtual values", e)
	}
}

// inverse is one by a number.
func inverse(f api.Frac) api.Frac {
	out, _ := frac.Div(num(1, 1), f)
	return out
}

// Sums and differences that the chapter does not name may be too long, if what it names is not.
func TestLongOnTheWay(t *testing.T) {
	p, q, n := long(2000), frac.Add(long(1900), num(2, 1)), long(2500)
	virtual, e := toll.Virtual(api.Bidder{Values: []api.Frac{num(0, 1), n}, Weights: []api.Frac{frac.Add(n, num(2, 1)), inverse(n)}})
	if e != api.OK || !isRightly(virtual[0], frac.Neg(inverse(frac.Add(n, num(2, 1))))) || !isRightly(virtual[1], n) {
		t.Error("Virtual", e)
	}
	b := api.Bidder{Values: []api.Frac{num(0, 1), inverse(p), frac.Mul(long(102), inverse(p))}, Weights: []api.Frac{inverse(p), inverse(q), inverse(q)}}
	mean := by(value(frac.Neg(long(102))), plus(value(p), value(q)))
	if ironed, e := toll.Ironed(b); e != api.OK || !is(ironed[0], mean) || !is(ironed[1], mean) || !isRightly(ironed[2], b.Values[2]) {
		t.Error("Ironed", e)
	}
	one, other := inverse(p), frac.Mul(num(2, 1), inverse(q))
	s := api.Steps{Low: num(0, 1), High: num(9, 1), Cuts: nums(6), Shares: []api.Frac{one, other}}
	tolls := []api.Frac{frac.Mul(num(5, 1), one), frac.Mul(num(5, 1), other)} // both have the same at 5
	if bend, is := toll.Bent(s, tolls); !is || !isRightly(bend.True, num(11, 2)) || !isRightly(bend.Told, num(6, 1)) || !isRightly(bend.Gain, num(0, 1)) {
		t.Error("Bent", is)
	}
	most := api.Frac{Num: slices.Repeat([]uint32{1<<32 - 1}, api.MaxWords-1), Den: []uint32{1}}
	share, cut := frac.Sub(long(2048), num(1, 1)), frac.Sub(long(2049), num(1, 1)) // the product is most and 1
	s = api.Steps{Low: num(0, 1), High: frac.Add(cut, num(1, 1)), Cuts: []api.Frac{cut}, Shares: []api.Frac{share, share}}
	if bend, is := toll.Bent(s, []api.Frac{num(0, 1), most}); !frac.Right(bend.True) || !frac.Right(bend.Told) || !frac.Right(bend.Gain) {
		t.Error("Bent, where what is had is too long", is)
	}
}

// Great ones of long numbers are gone through in the end.
func TestManyLong(t *testing.T) {
	r := rand.New(rand.NewSource(103))
	var m api.Menu
	var s api.Steps
	var bs []api.Bidder
	for range api.MaxParts {
		m.Worth = append(m.Worth, []api.Frac{long(200 + r.Intn(200)), long(200 + r.Intn(200)), long(200 + r.Intn(200))})
		m.Lots = append(m.Lots, drawLot(r, 3))
	}
	for i := range api.MaxCuts {
		s.Cuts, s.Shares = append(s.Cuts, long(100+i)), append(s.Shares, long(10+i))
	}
	s.Low, s.High, s.Shares = num(0, 1), long(300), append(s.Shares, long(60))
	for range 2 {
		bs = append(bs, api.Bidder{Values: []api.Frac{long(100), long(200), long(300), long(400)}, Weights: []api.Frac{long(90), long(80), long(70), long(60)}})
	}
	tolls, e := toll.Tolls(s)
	if bend, is := toll.Bent(s, tolls); e != api.OK || is {
		t.Error("long steps", e, is, len(bend.True.Num))
	}
	if law, e := toll.Auction(bs); e != api.OK || len(law.Cells) != 16 {
		t.Error("long bidders", e)
	}
	pays, cycle, ok, e := toll.Pays(m)
	if e != api.OK || !ok && frac.Sign(toll.Gain(m, cycle)) <= 0 {
		t.Error("a long menu", e)
	}
	if ok {
		checkHonest(t, m, pays)
	}
}

// overwrite writes over all that lists have, and tells whether some of it had been written over already.
func overwrite(lists [][]api.Frac) bool {
	twice := false
	for _, l := range lists {
		for _, f := range l {
			for _, words := range [][]uint32{f.Num[:cap(f.Num)], f.Den[:cap(f.Den)]} {
				for i := range words {
					twice = twice || words[i] == 123456789
					words[i] = 123456789
				}
			}
		}
	}
	for _, l := range lists {
		for i := range l {
			twice = twice || l[i].Neg && len(l[i].Den) == 0
			l[i] = api.Frac{Neg: true}
		}
	}
	return twice
}

// No function changes what it is handed, and no result shares memory with it or with another part of it.
func TestMemory(t *testing.T) {
	r := rand.New(rand.NewSource(104))
	for range 500 {
		h := drawHanded(r)
		text := speech.Print(h.g)
		before, ints := copied(append(h.lists(), []api.Frac{h.v, h.s.Low, h.s.High})), slices.Clone(h.ints)
		lists, cycles := tellAll(h)
		if overwrite(lists) {
			t.Fatal("parts of results share memory")
		}
		for _, c := range cycles {
			clear(c)
		}
		if !sameLists(append(h.lists(), []api.Frac{h.v, h.s.Low, h.s.High}), before) || !slices.Equal(h.ints, ints) || speech.Print(h.g) != text {
			t.Fatal("changed", h)
		}
	}
}
