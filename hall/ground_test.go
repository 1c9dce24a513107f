package hall_test

import (
	"math/big"
	"math/rand"
	"slices"
	"testing"

	"unbent/api"
	"unbent/frac"
	"unbent/hall"
)

// handed is all that functions of the package are handed.
type handed struct {
	p, q, wants, totals [][]int
	match, order, got   []int
	peaks, phantoms     []int
	things              int
	m                   [][]api.Frac
	cost, bids          []api.Frac
}

// drawHanded is what is all right.
func drawHanded(r *rand.Rand) *handed {
	a, b, n := r.Intn(5), r.Intn(5), 1+r.Intn(4)
	h := &handed{p: drawLists(r, a, b), q: drawLists(r, b, a), things: b}
	h.wants, h.order = drawLists(r, a, b), r.Perm(a)
	h.totals, h.got = drawTotals(r, n), r.Perm(n)
	h.match = slices.Repeat([]int{-1}, a)
	for i := range min(a, b) {
		h.match[i] = i
	}
	h.peaks, h.phantoms = drawInts(r, n, 5), drawInts(r, n-1, 5)
	h.m = drawMatrix(r, n, 1+r.Intn(4))
	h.cost = drawCost(r, n)
	h.bids = drawBids(r, h.cost, n)
	return h
}

// told is all that the functions tell: whole numbers, fractions; and of each function the error, and whether nothing else is told.
type told struct {
	ints    [][]int
	fracs   [][]api.Frac
	errors  []api.Errno
	nothing []bool
}

// tellAll calls all functions of the package.
func tellAll(h *handed) told {
	match, e1 := hall.Accept(h.p, h.q)
	p, r, e2 := hall.Block(h.p, h.q, h.match)
	trade, e3 := hall.Trade(h.totals)
	group, e4 := hall.Object(h.totals, h.got)
	serial, e5 := hall.Serial(h.order, h.wants, h.things)
	drawn, e6 := hall.Drawn(h.wants, h.things)
	perms, e7 := hall.Split(h.m)
	median, e8 := hall.Median(h.peaks, h.phantoms)
	served, pays, e9 := hall.Charge(h.cost, h.bids)
	out := told{
		ints:    [][]int{match, {p, r}, trade, group, serial, {median}, served},
		fracs:   append([][]api.Frac{pays}, drawn...),
		errors:  []api.Errno{e1, e2, e3, e4, e5, e6, e7, e8, e9},
		nothing: []bool{match == nil, p == 0 && r == 0, trade == nil, group == nil, serial == nil, drawn == nil, perms == nil, median == 0, served == nil && pays == nil},
	}
	for _, p := range perms {
		out.ints = append(out.ints, p.To)
		out.fracs = append(out.fracs, []api.Frac{p.Weight})
	}
	return out
}

func sameFracs(a, b [][]api.Frac) bool { return slices.EqualFunc(a, b, areRightly) }

func sameInts(a, b [][]int) bool {
	return slices.EqualFunc(a, b, func(x, y []int) bool { return slices.Equal(x, y) })
}

func sameTold(a, b told) bool {
	return sameInts(a.ints, b.ints) && sameFracs(a.fracs, b.fracs) && slices.Equal(a.errors, b.errors)
}

// drawAny is any fraction at all, right or not.
func drawAny(r *rand.Rand) api.Frac {
	list := func() []uint32 {
		var out []uint32
		for range r.Intn(3) {
			out = append(out, uint32(r.Intn(3)))
		}
		return out
	}
	return api.Frac{Neg: r.Intn(2) == 0, Num: list(), Den: list()}
}

// anyInt is a number as lists have them, or beside it, or far off.
func anyInt(r *rand.Rand) int {
	if r.Intn(8) == 0 {
		return []int{-1 << 63, 1<<63 - 1, 1 << 32, -1 << 31, 8, 64}[r.Intn(6)]
	}
	return r.Intn(9) - 2
}

// spoilInts changes a list of whole numbers, so that it may be anything.
func spoilInts(r *rand.Rand, l *[]int) {
	switch n := len(*l); r.Intn(5) {
	case 0:
		*l = nil
	case 1:
		*l = append(slices.Clone(*l), anyInt(r))
	case 2:
		*l = (*l)[:n/2]
	default:
		if n > 0 {
			*l = with(*l, r.Intn(n), anyInt(r))
		}
	}
}

func spoilFracs(r *rand.Rand, l *[]api.Frac) {
	switch n := len(*l); r.Intn(5) {
	case 0:
		*l = nil
	case 1:
		*l = append(slices.Clone(*l), drawAny(r))
	case 2:
		*l = (*l)[:n/2]
	default:
		if n > 0 {
			*l = with(*l, r.Intn(n), drawAny(r))
		}
	}
}

// spoilRows changes a row of some, or how many there are.
func spoilRows[T any](r *rand.Rand, rows *[][]T, spoil func(*rand.Rand, *[]T)) {
	switch n := len(*rows); {
	case n == 0 || r.Intn(8) == 0:
		*rows = make([][]T, r.Intn(12))
	case r.Intn(8) == 0:
		*rows = append(slices.Clone(*rows), (*rows)[r.Intn(n)])
	default:
		*rows = slices.Clone(*rows)
		spoil(r, &(*rows)[r.Intn(n)])
	}
}

// spoilHanded changes something of what is handed.
func spoilHanded(r *rand.Rand, h *handed) {
	switch i := r.Intn(14); i {
	case 0, 1, 2, 3:
		spoilRows(r, []*[][]int{&h.p, &h.q, &h.wants, &h.totals}[i], spoilInts)
	case 4, 5, 6, 7, 8:
		spoilInts(r, []*[]int{&h.match, &h.order, &h.got, &h.peaks, &h.phantoms}[i-4])
	case 9:
		h.things = anyInt(r)
	case 10:
		spoilRows(r, &h.m, spoilFracs)
	case 11, 12:
		spoilFracs(r, &h.cost)
	default:
		spoilFracs(r, &h.bids)
	}
}

// P1: no function panics, whatever it is handed; what is told is right, and nothing is told with an error.
func TestAnything(t *testing.T) {
	r := rand.New(rand.NewSource(71))
	errors := map[api.Errno]int{}
	for range 20000 {
		h := drawHanded(r)
		for range r.Intn(4) {
			spoilHanded(r, h)
		}
		if r.Intn(100) == 0 {
			h = &handed{}
		}
		all := tellAll(h)
		for _, l := range all.fracs {
			for _, f := range l {
				if !frac.Right(f) {
					t.Fatal("not right:", f)
				}
			}
		}
		for which, e := range all.errors {
			errors[e]++
			if e != api.OK && !all.nothing[which] {
				t.Fatal("told with an error", which, e, all)
			}
		}
	}
	for _, e := range []api.Errno{api.OK, api.ErrSize, api.ErrList, api.ErrMatrix, api.ErrCost} {
		if errors[e] < 100 {
			t.Error("error", e, errors[e])
		}
	}
	if len(errors) != 5 {
		t.Error("other errors", errors)
	}
}

// Numbers that are not right are 0, wherever they stand.
func TestFix(t *testing.T) {
	r := rand.New(rand.NewSource(72))
	fixed := 0
	for range 1000 {
		h := drawHanded(r)
		before := tellAll(h)
		for _, l := range append([][]api.Frac{h.cost, h.bids}, h.m...) {
			for i := range l {
				if frac.Sign(l[i]) == 0 {
					l[i] = []api.Frac{wrong(), {}, {Neg: true, Den: []uint32{1}}, {Num: []uint32{0}, Den: []uint32{1}}}[r.Intn(4)]
					fixed++
				}
			}
		}
		if !sameTold(tellAll(h), before) {
			t.Fatal("something else is told", h)
		}
	}
	if fixed < 1000 {
		t.Error("wrong numbers", fixed)
	}
}

// copiedFracs is lists of lists in memory of their own.
func copiedFracs(lists [][]api.Frac) [][]api.Frac {
	var out [][]api.Frac
	for _, l := range lists {
		var own []api.Frac
		for _, f := range l {
			own = append(own, api.Frac{Neg: f.Neg, Num: slices.Clone(f.Num), Den: slices.Clone(f.Den)})
		}
		out = append(out, own)
	}
	return out
}

func copiedInts(lists [][]int) [][]int {
	var out [][]int
	for _, l := range lists {
		out = append(out, slices.Clone(l))
	}
	return out
}

// written is what tests write over what was told.
const written = 123456789

// overwrite writes over all that lists have, also behind their ends, and reports whether some of it had been written over already.
func overwrite(l told) bool {
	twice := false
	for _, ints := range l.ints {
		ints = ints[:cap(ints)]
		for i := range ints {
			twice = twice || ints[i] == written
			ints[i] = written
		}
	}
	for _, fracs := range l.fracs {
		for _, f := range fracs {
			for _, words := range [][]uint32{f.Num[:cap(f.Num)], f.Den[:cap(f.Den)]} {
				for i := range words {
					twice = twice || words[i] == written
					words[i] = written
				}
			}
		}
		fracs = fracs[:cap(fracs)]
		for i := range fracs {
			twice = twice || len(fracs[i].Den) == 7
			fracs[i] = api.Frac{Den: make([]uint32, 7)}
		}
	}
	return twice
}

// lists is all lists of what is handed.
func (h *handed) lists() ([][]int, [][]api.Frac) {
	ints := slices.Concat(h.p, h.q, h.wants, h.totals, [][]int{h.match, h.order, h.got, h.peaks, h.phantoms})
	return ints, append([][]api.Frac{h.cost, h.bids}, h.m...)
}

// No function changes what it is handed, not even behind its end, and no result shares memory with it or with another part of it.
func TestMemory(t *testing.T) {
	r := rand.New(rand.NewSource(73))
	for range 1000 {
		h := drawHanded(r)
		roomy := append(append(make([]int, 0, 40), h.peaks...), 5, 5, 5, 5, 5, 5, 5, 5)
		h.peaks = roomy[:len(h.peaks)]
		ints, fracs := h.lists()
		keptInts, keptFracs, keptRoom := copiedInts(ints), copiedFracs(fracs), slices.Clone(roomy)
		if overwrite(tellAll(h)) {
			t.Fatal("parts of results share memory", h)
		}
		if !sameInts(ints, keptInts) || !sameFracs(fracs, keptFracs) || !slices.Equal(roomy, keptRoom) {
			t.Fatal("changed", h)
		}
	}
}

// many is n lists of nothing; with a wrong one among them.
func many(n int) [][]int { return make([][]int, n) }

func wrongly(n int) [][]int { return with(make([][]int, n), 0, []int{-7, 900}) }

// ErrSize comes first, just behind the limits; how long a list is does not make it.
func TestSizes(t *testing.T) {
	accept := func(p, q [][]int) api.Errno { _, e := hall.Accept(p, q); return e }
	block := func(p, q [][]int, match []int) api.Errno { _, _, e := hall.Block(p, q, match); return e }
	trade := func(wants [][]int) api.Errno { _, e := hall.Trade(wants); return e }
	object := func(wants [][]int, got []int) api.Errno { _, e := hall.Object(wants, got); return e }
	serial := func(order []int, wants [][]int, things int) api.Errno {
		_, e := hall.Serial(order, wants, things)
		return e
	}
	drawn := func(wants [][]int, things int) api.Errno { _, e := hall.Drawn(wants, things); return e }
	long, eight := make([]int, 3000), []int{7, 6, 5, 4, 3, 2, 1, 0}
	for i, c := range []struct{ got, wanted api.Errno }{
		{accept(many(8), many(8)), api.OK},
		{accept(many(9), many(8)), api.ErrSize},
		{accept(many(8), many(9)), api.ErrSize},
		{accept(wrongly(9), wrongly(1)), api.ErrSize},
		{accept(wrongly(1), wrongly(9)), api.ErrSize},
		{accept(wrongly(8), many(8)), api.ErrList},
		{accept(many(8), wrongly(8)), api.ErrList},
		{accept([][]int{long}, many(8)), api.ErrList},
		{accept([][]int{eight}, many(8)), api.OK},
		{accept([][]int{eight}, many(7)), api.ErrList},
		{accept(nil, [][]int{{0}}), api.ErrList},
		{block(many(8), many(8), slices.Repeat([]int{-1}, 8)), api.OK},
		{block(wrongly(9), many(1), long), api.ErrSize},
		{block(many(1), wrongly(9), long), api.ErrSize},
		{block(many(8), many(8), long), api.ErrList},
		{block(many(1), wrongly(8), []int{-1}), api.ErrList},
		{trade(slices.Repeat([][]int{eight}, 8)), api.OK},
		{trade(slices.Repeat([][]int{eight}, 7)), api.ErrList},
		{trade(slices.Repeat([][]int{eight}, 9)), api.ErrSize},
		{trade(wrongly(9)), api.ErrSize},
		{object(slices.Repeat([][]int{eight}, 8), eight), api.OK},
		{object(slices.Repeat([][]int{eight}, 8), long), api.ErrList},
		{object(wrongly(9), long), api.ErrSize},
		{object(nil, nil), api.OK},
		{object(nil, []int{0}), api.ErrList},
		{serial(eight, many(8), 8), api.OK},
		{serial(eight, slices.Repeat([][]int{eight}, 8), 8), api.OK},
		{serial(eight, slices.Repeat([][]int{eight}, 8), 7), api.ErrList},
		{serial(eight, wrongly(8), 9), api.ErrSize},
		{serial(long, wrongly(8), -1), api.ErrSize},
		{serial(long, wrongly(8), -1<<63), api.ErrSize},
		{serial(long, wrongly(9), 8), api.ErrSize},
		{serial(long, many(8), 8), api.ErrList},
		{drawn(many(6), 8), api.OK},
		{drawn(many(7), 8), api.ErrSize},
		{drawn(wrongly(7), 8), api.ErrSize},
		{drawn(wrongly(6), 9), api.ErrSize},
		{drawn(wrongly(6), -1), api.ErrSize},
		{drawn(wrongly(6), 8), api.ErrList},
		{drawn([][]int{long}, 8), api.ErrList},
		{drawn([][]int{eight}, 8), api.OK},
		{drawn(nil, 1<<63-1), api.ErrSize},
	} {
		if c.got != c.wanted {
			t.Error("case", i, "is", c.got, "and not", c.wanted)
		}
	}
}

func TestSizesOfNumbers(t *testing.T) {
	split := func(m [][]api.Frac) api.Errno { _, e := hall.Split(m); return e }
	price := func(cost, bids []api.Frac) api.Errno { _, _, e := hall.Charge(cost, bids); return e }
	zeros := func(n int) []api.Frac { return make([]api.Frac, n) }
	for i, c := range []struct{ got, wanted api.Errno }{
		{split(mixed(6, []api.Perm{{To: []int{5, 3, 1, 0, 2, 4}, Weight: num(1, 1)}})), api.OK},
		{split(mixed(7, []api.Perm{{To: []int{6, 5, 3, 1, 0, 2, 4}, Weight: num(1, 1)}})), api.ErrSize},
		{split(make([][]api.Frac, 7)), api.ErrSize},
		{split(make([][]api.Frac, 6)), api.ErrMatrix},
		{split([][]api.Frac{zeros(5000)}), api.ErrMatrix},
		{price(zeros(64), zeros(6)), api.OK},
		{price(zeros(128), zeros(7)), api.ErrSize},
		{price(nil, zeros(7)), api.ErrSize},
		{price(nil, zeros(5000)), api.ErrSize},
		{price(zeros(5000), zeros(6)), api.ErrCost},
	} {
		if c.got != c.wanted {
			t.Error("case", i, "is", c.got, "and not", c.wanted)
		}
	}
}

// What is told is exact as long as it is not too long, however long its parts are.
func TestLong(t *testing.T) {
	part := inverse(long(2040))
	rest := frac.Sub(num(1, 1), part)
	told, e := hall.Split([][]api.Frac{{part, rest}, {rest, part}})
	if e != api.OK || len(told) != 2 || !isRightly(told[0].Weight, part) || !isRightly(told[1].Weight, rest) {
		t.Error("Split of long entries", e, len(told))
	}
	if l, e := hall.Split([][]api.Frac{{part, frac.Add(rest, part)}, {rest, part}}); e != api.ErrMatrix || l != nil {
		t.Error("Split of long entries that do not sum to 1", e)
	}
	most := long(api.MaxWords - 1)
	served, pays := charge(t, []api.Frac{num(0, 1), most}, []api.Frac{most})
	if !slices.Equal(served, []int{0}) || !areRightly(pays, []api.Frac{most}) {
		t.Error("Charge of a long cost", served)
	}
	served, pays = charge(t, []api.Frac{num(0, 1), most, most, most}, []api.Frac{most, frac.Sub(most, num(1, 1))})
	if half := frac.Mul(most, num(1, 2)); !slices.Equal(served, []int{0, 1}) || !areRightly(pays, []api.Frac{half, half}) {
		t.Error("Charge of long costs", served)
	}
	a, b := inverse(long(900)), inverse(frac.Add(long(900), num(2, 1)))
	both := frac.Add(a, b)
	served, pays = charge(t, []api.Frac{num(0, 1), a, b, both}, []api.Frac{a, frac.Sub(b, part)})
	if !slices.Equal(served, []int{0}) || !areRightly(pays, []api.Frac{a, num(0, 1)}) {
		t.Error("Charge of costs of long denominators", served)
	}
}

// Sums of two costs may be too long, if what both differ by is not; so may be what is added up of a share.
func TestLongOnTheWay(t *testing.T) {
	e, f := inverse(long(1100)), inverse(frac.Add(long(1100), num(2, 1)))
	bids := nums(-1, -1, -1)
	for more, wanted := range map[int]api.Errno{21: api.OK, 22: api.OK, 23: api.ErrCost} {
		cost := nums(0, 10, 10, 18, 10, 16, 16, more)
		for group, tiny := range map[int]api.Frac{4: e, 5: e, 6: f, 7: f} {
			cost[group] = frac.Add(cost[group], tiny)
		}
		if served, _, e := hall.Charge(cost, bids); len(served) != 0 || e != wanted {
			t.Error("Charge of", more, served, e)
		}
	}
	cost, bids := nums(0), []api.Frac{e, inverse(long(600)), inverse(long(300))}
	for _, one := range bids {
		for _, other := range slices.Clone(cost) {
			cost = append(cost, frac.Add(one, other))
		}
	}
	served, pays := charge(t, cost, bids)
	if !slices.Equal(served, []int{0, 1, 2}) || !areRightly(pays, bids) {
		t.Error("Charge of what each costs alone", served)
	}
}

// Great ones of long numbers are gone through in the end.
func TestManyLong(t *testing.T) {
	r := rand.New(rand.NewSource(74))
	var perms []api.Perm
	left := num(1, 1)
	for i := range 4 {
		weight := inverse(frac.Add(long(100+i), num(2*i, 1)))
		perms, left = append(perms, api.Perm{To: r.Perm(6), Weight: weight}), frac.Sub(left, weight)
	}
	perms = append(perms, api.Perm{To: r.Perm(6), Weight: left})
	m := mixed(6, perms)
	told, e := hall.Split(m)
	if e != api.OK || len(told) > 26 || !slices.EqualFunc(mixed(6, told), m, areRightly) {
		t.Error("Split", e, len(told))
	}
	cost := nums(0)
	for i := range 6 {
		for _, other := range slices.Clone(cost) {
			cost = append(cost, frac.Add(other, long(100+i)))
		}
	}
	served, pays := charge(t, cost, slices.Repeat([]api.Frac{long(103)}, 6))
	all := new(big.Rat)
	for _, pay := range pays {
		all.Add(all, value(pay))
	}
	if !slices.Equal(served, []int{0, 1, 2, 3}) || value(cost[15]).Cmp(all) != 0 {
		t.Error("Charge", served)
	}
}
