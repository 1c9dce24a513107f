package toll_test

import (
	"math/big"
	"math/rand"
	"slices"
	"testing"

	"unbent/api"
	"unbent/frac"
	"unbent/toll"
)

// drawSteps is steps with so many cuts at most; often the shares never fall.
func drawSteps(r *rand.Rand, most int) api.Steps {
	n := r.Intn(most + 1)
	bounds := drawRising(r, n+2, 5)
	s := api.Steps{Low: bounds[0], High: bounds[n+1], Cuts: bounds[1 : n+1], Shares: drawSmalls(r, n+1, 2)}
	if r.Intn(2) == 0 {
		slices.SortFunc(s.Shares, frac.Cmp)
	}
	return s
}

// bound is the start of a piece, or the end of the box behind the last one.
func bound(s api.Steps, piece int) *big.Rat {
	switch {
	case piece == 0:
		return value(s.Low)
	case piece > len(s.Cuts):
		return value(s.High)
	}
	return value(s.Cuts[piece-1])
}

// pieceAt is the piece of a number, -1 outside.
func pieceAt(s api.Steps, v *big.Rat) int {
	last := len(s.Cuts)
	for i := range last + 1 {
		start, end := bound(s, i), bound(s, i+1)
		if v.Cmp(start) >= 0 && (v.Cmp(end) < 0 || i == last && v.Cmp(end) == 0) {
			return i
		}
	}
	return -1
}

// areaUpTo is the area up to a number in the box: that up to the piece's start, and the rest.
func areaUpTo(s api.Steps, v *big.Rat) *big.Rat {
	piece := pieceAt(s, v)
	out := times(value(s.Shares[piece]), less(v, bound(s, piece)))
	for i := range piece {
		out.Add(out, times(value(s.Shares[i]), less(bound(s, i+1), bound(s, i))))
	}
	return out
}

// some is numbers of the box and about it: all bounds, numbers between and beside them.
func some(s api.Steps) []*big.Rat {
	var out []*big.Rat
	last := less(value(s.Low), rat(1, 1))
	for i := range len(s.Cuts) + 2 {
		b := bound(s, i)
		out = append(out, times(plus(last, b), rat(1, 2)), less(b, rat(1, 1000)), b, plus(b, rat(1, 1000)))
		last = b
	}
	return append(out, plus(last, rat(1, 1)))
}

// told is a fraction of a number.
func told(x *big.Rat) api.Frac {
	words := func(n *big.Int) []uint32 {
		var out []uint32
		for n := new(big.Int).Abs(n); n.Sign() > 0; n.Rsh(n, 32) {
			out = append(out, uint32(n.Uint64()))
		}
		return out
	}
	return api.Frac{Neg: x.Sign() < 0, Num: words(x.Num()), Den: words(x.Denom())}
}

// At, Area and Rising, by their words.
func TestSteps(t *testing.T) {
	r := rand.New(rand.NewSource(81))
	for range 400 {
		s := drawSteps(r, 5)
		if toll.RightSteps(s) != api.OK {
			t.Fatal("RightSteps", s)
		}
		for _, v := range some(s) {
			share, ok := toll.At(s, told(v))
			area, yes := toll.Area(s, told(v))
			piece := pieceAt(s, v)
			if ok != (piece >= 0) || yes != ok {
				t.Fatal(s, v, ok, yes)
			}
			if !ok {
				if !isRightly(share, num(0, 1)) || !isRightly(area, num(0, 1)) {
					t.Fatal("outside", share, area)
				}
				continue
			}
			if !isRightly(share, s.Shares[piece]) || !is(area, areaUpTo(s, v)) {
				t.Fatal(s, v, frac.Print(share), frac.Print(area))
			}
		}
		falls := false
		for i := range s.Cuts {
			falls = falls || value(s.Shares[i+1]).Cmp(value(s.Shares[i])) < 0
		}
		if toll.Rising(s) == falls {
			t.Fatal("Rising", s)
		}
	}
}

// Tolls, by their words.
func TestTolls(t *testing.T) {
	r := rand.New(rand.NewSource(82))
	for i := range 300 {
		most := 5
		if i < 5 {
			most = api.MaxCuts
		}
		s := drawSteps(r, most)
		var wanted []*big.Rat
		for i, share := range s.Shares {
			start := bound(s, i)
			wanted = append(wanted, less(times(value(share), start), areaUpTo(s, start)))
		}
		if got, e := toll.Tolls(s); e != api.OK || !areAll(got, wanted) {
			t.Fatal("Tolls", s, got, wanted, e)
		}
	}
}

// gainIn is what v of piece i gains by a number of piece j.
func gainIn(s api.Steps, tolls []api.Frac, v *big.Rat, i, j int) *big.Rat {
	has := func(piece int) *big.Rat { return less(times(v, value(s.Shares[piece])), value(tolls[piece])) }
	return less(has(j), has(i))
}

// firstBend is what Bent is to tell: of a gain that changes by the same from number to number, some number has one if the start has, or numbers as near to the end as one likes.
func firstBend(s api.Steps, tolls []api.Frac) (trueOne, toldOne, gain *big.Rat) {
	for i := range tolls {
		for j := range tolls {
			start, end := bound(s, i), bound(s, i+1)
			atStart, atEnd := gainIn(s, tolls, start, i, j), gainIn(s, tolls, end, i, j)
			if atStart.Sign() > 0 {
				return start, bound(s, j), atStart
			}
			if atEnd.Sign() > 0 {
				slope := by(less(atEnd, atStart), less(end, start))
				from := less(start, by(atStart, slope))
				v := times(plus(from, end), rat(1, 2))
				return v, bound(s, j), gainIn(s, tolls, v, i, j)
			}
		}
	}
	return nil, nil, nil
}

// checkBent checks what Bent tells, by its words and by what some numbers of the box gain.
func checkBent(t *testing.T, s api.Steps, tolls []api.Frac) bool {
	t.Helper()
	bend, is := toll.Bent(s, tolls)
	who, told, gain := firstBend(s, tolls)
	if is != (who != nil) {
		t.Fatal("Bent", s, tolls, bend, is)
	}
	if !is {
		if !sameBend(bend, noBend()) {
			t.Fatal("no lie", bend)
		}
		for _, v := range some(s) {
			for j := range tolls {
				if i := pieceAt(s, v); i >= 0 && gainIn(s, tolls, v, i, j).Sign() > 0 {
					t.Fatal("a lie that is not told", s, tolls, v, j)
				}
			}
		}
		return false
	}
	if value(bend.True).Cmp(who) != 0 || value(bend.Told).Cmp(told) != 0 || value(bend.Gain).Cmp(gain) != 0 || gain.Sign() <= 0 {
		t.Fatal("Bent", s, tolls, bend, who, told, gain)
	}
	i, j := pieceAt(s, value(bend.True)), pieceAt(s, value(bend.Told))
	if i < 0 || j < 0 || gainIn(s, tolls, value(bend.True), i, j).Cmp(gain) != 0 {
		t.Fatal("a lie that gains something else", s, tolls, bend)
	}
	return true
}

// shifted is tolls that are all more by the same.
func shifted(tolls []api.Frac, more api.Frac) []api.Frac {
	var out []api.Frac
	for _, f := range tolls {
		out = append(out, frac.Add(f, more))
	}
	return out
}

// P6.4: if the shares never fall, the tolls are honest, and so are those that differ from them by one number, and no others; if a share falls, no tolls are.
func TestMyerson(t *testing.T) {
	r := rand.New(rand.NewSource(83))
	for range 1500 {
		s := drawSteps(r, 4)
		tolls, e := toll.Tolls(s)
		if e != api.OK {
			t.Fatal("Tolls", e)
		}
		for range 3 {
			shifted := shifted(tolls, drawSmall(r, 5))
			if bent := checkBent(t, s, shifted); bent == toll.Rising(s) {
				t.Fatal("Bent of Tolls", s, bent)
			}
			if len(tolls) < 2 {
				continue
			}
			at := r.Intn(len(tolls))
			shifted[at] = frac.Add(shifted[at], num([]int{-1, 1}[r.Intn(2)], 1+r.Intn(3)))
			if !checkBent(t, s, shifted) {
				t.Fatal("other tolls are honest", s, shifted)
			}
		}
		checkBent(t, s, drawSmalls(r, len(tolls), 4))
	}
}

// A gain just at the end of a piece is none, as the end is the next piece's; one just at the end of the box would be one.
func TestEnds(t *testing.T) {
	s := api.Steps{Low: num(0, 1), High: num(10, 1), Cuts: nums(4), Shares: nums(0, 1)}
	for _, c := range []struct {
		tolls  []api.Frac
		wanted api.Bend
		is     bool
	}{
		{nums(0, 4), noBend(), false},
		{[]api.Frac{num(0, 1), num(39, 10)}, api.Bend{True: num(79, 20), Told: num(4, 1), Gain: num(1, 20)}, true},
		{nums(0, 0), api.Bend{True: num(2, 1), Told: num(4, 1), Gain: num(2, 1)}, true},
		{nums(0, -1), api.Bend{True: num(0, 1), Told: num(4, 1), Gain: num(1, 1)}, true},
		{nums(0, 11), api.Bend{True: num(4, 1), Told: num(0, 1), Gain: num(7, 1)}, true},
	} {
		if got, is := toll.Bent(s, c.tolls); is != c.is || !sameBend(got, c.wanted) {
			t.Error(c.tolls, got, is)
		}
	}
	s.Shares = nums(1, 0)
	if got, is := toll.Bent(s, nums(0, -10)); !is || !sameBend(got, api.Bend{True: num(0, 1), Told: num(4, 1), Gain: num(10, 1)}) {
		t.Error("shares that fall", got, is)
	}
	if got, is := toll.Bent(s, nums(0, 0)); !is || !sameBend(got, api.Bend{True: num(4, 1), Told: num(0, 1), Gain: num(4, 1)}) {
		t.Error("shares that fall, without tolls", got, is)
	}
	if got, is := toll.Bent(s, nums(-6, -10)); !is || !sameBend(got, api.Bend{True: num(0, 1), Told: num(4, 1), Gain: num(4, 1)}) {
		t.Error("shares that fall, of more tolls", got, is)
	}
	s.Low, s.High, s.Cuts = num(-10, 1), num(0, 1), nums(-4)
	if got, is := toll.Bent(s, nums(4, 0)); !is || !sameBend(got, api.Bend{True: num(-10, 1), Told: num(-4, 1), Gain: num(14, 1)}) {
		t.Error("below 0", got, is)
	}
}

// wrongSteps is steps that are not right, each by one thing.
func wrongSteps() map[string]api.Steps {
	of := func(low, high int, cuts, shares []api.Frac) api.Steps {
		return api.Steps{Low: num(low, 1), High: num(high, 1), Cuts: cuts, Shares: shares}
	}
	many := make([]int, api.MaxCuts+1)
	for i := range many {
		many[i] = i + 1
	}
	return map[string]api.Steps{
		"nothing":          {},
		"no box":           of(1, 1, nil, nums(1)),
		"a box that falls": of(2, 1, nil, nums(1)),
		"no share":         of(0, 1, nil, nil),
		"a share less":     of(0, 9, nums(1, 2), nums(1, 2)),
		"a share more":     of(0, 9, nums(1, 2), nums(1, 2, 3, 4)),
		"a cut at Low":     of(1, 9, nums(1, 2), nums(1, 2, 3)),
		"a cut below Low":  of(1, 9, nums(0, 2), nums(1, 2, 3)),
		"a cut at High":    of(1, 9, nums(2, 9), nums(1, 2, 3)),
		"a cut above High": of(1, 9, nums(2, 10), nums(1, 2, 3)),
		"a cut twice":      of(1, 9, nums(2, 2), nums(1, 2, 3)),
		"cuts that fall":   of(1, 9, nums(3, 2), nums(1, 2, 3)),
		"41 cuts":          of(0, 100, nums(many...), nums(make([]int, api.MaxCuts+2)...)),
	}
}

func TestWrongSteps(t *testing.T) {
	for name, s := range wrongSteps() {
		tolls := nums(make([]int, len(s.Shares))...)
		if e := toll.RightSteps(s); e != api.ErrStep {
			t.Error(name, "RightSteps", e)
		}
		if f, ok := toll.At(s, num(1, 1)); ok || !isRightly(f, num(0, 1)) {
			t.Error(name, "At", f, ok)
		}
		if f, ok := toll.Area(s, num(1, 1)); ok || !isRightly(f, num(0, 1)) {
			t.Error(name, "Area", f, ok)
		}
		if toll.Rising(s) {
			t.Error(name, "Rising")
		}
		if l, e := toll.Tolls(s); e != api.ErrStep || l != nil {
			t.Error(name, "Tolls", l, e)
		}
		if bend, is := toll.Bent(s, tolls); is || !sameBend(bend, noBend()) {
			t.Error(name, "Bent", bend, is)
		}
	}
	s := wrongSteps()["41 cuts"]
	s.Cuts, s.Shares = s.Cuts[1:], s.Shares[1:]
	if toll.RightSteps(s) != api.OK {
		t.Error("40 cuts")
	}
	s = api.Steps{Low: num(0, 1), High: num(10, 1), Cuts: nums(4, 5), Shares: nums(2, 1, 0)}
	for n := range 5 {
		if bend, is := toll.Bent(s, nums(make([]int, n)...)); is != (n == 3) || !is && !sameBend(bend, noBend()) {
			t.Error(n, "tolls", bend, is)
		}
	}
}
