package toll_test

import (
	"math/big"
	"math/rand"
	"slices"
	"testing"

	"unbent/api"
	"unbent/frac"
	"unbent/plane"
	"unbent/toll"
)

// hasOf is what the lottery of a report is worth to a kind.
func hasOf(m api.Menu, kind, told int) *big.Rat { return dot(m.Worth[kind], m.Lots[told]) }

// gainOf is what a cycle gains.
func gainOf(m api.Menu, cycle []int) *big.Rat {
	out := new(big.Rat)
	for i, kind := range cycle {
		next := cycle[0]
		if i+1 < len(cycle) {
			next = cycle[i+1]
		}
		out.Add(out, less(hasOf(m, kind, next), hasOf(m, kind, kind)))
	}
	return out
}

// chains goes through all lists of different kinds, one at least, that begin with a kind.
func chains(n int, chain []int, yield func([]int)) {
	yield(chain)
	for k := range n {
		if !slices.Contains(chain, k) {
			chains(n, append(slices.Clone(chain), k), yield)
		}
	}
}

// gains reports whether any cycle of different kinds gains.
func gains(m api.Menu) bool {
	out := false
	for first := range m.Worth {
		chains(len(m.Worth), []int{first}, func(c []int) { out = out || gainOf(m, c).Sign() > 0 })
	}
	return out
}

// mostOver is the most that kind b may pay more than kind a, over all chains of kinds from b to a of which each could say the next one.
func mostOver(m api.Menu, a, b int) *big.Rat {
	if a == b {
		return new(big.Rat)
	}
	var least *big.Rat
	chains(len(m.Worth), []int{b}, func(c []int) {
		if c[len(c)-1] != a {
			return
		}
		sum := new(big.Rat)
		for i := range len(c) - 1 {
			sum.Add(sum, less(hasOf(m, c[i], c[i]), hasOf(m, c[i], c[i+1])))
		}
		if least == nil || sum.Cmp(least) < 0 {
			least = sum
		}
	})
	return least
}

// drawMenu is any menu.
func drawMenu(r *rand.Rand, kinds, outs int) api.Menu {
	var m api.Menu
	for range kinds {
		m.Worth = append(m.Worth, drawSmalls(r, outs, 4))
		m.Lots = append(m.Lots, drawLot(r, outs))
	}
	return m
}

// drawOffer is a menu that has honest payments, which are told too: each kind chose what it likes best of some lotteries with prices.
func drawOffer(r *rand.Rand, kinds, outs int) (api.Menu, []api.Frac) {
	offers := 1 + r.Intn(kinds)
	prices := drawSmalls(r, offers, 3)
	var lots [][]api.Frac
	for range offers {
		lots = append(lots, drawLot(r, outs))
	}
	var m api.Menu
	var pays []api.Frac
	for range kinds {
		worth := drawSmalls(r, outs, 4)
		best := 0
		for i := range lots {
			if less(dot(worth, lots[i]), value(prices[i])).Cmp(less(dot(worth, lots[best]), value(prices[best]))) > 0 {
				best = i
			}
		}
		m.Worth, m.Lots, pays = append(m.Worth, worth), append(m.Lots, lots[best]), append(pays, prices[best])
	}
	return m, pays
}

// firstLie is what Honest is to tell.
func firstLie(m api.Menu, pays []api.Frac) (int, int, bool) {
	for k := range pays {
		for j := range pays {
			if less(hasOf(m, k, j), value(pays[j])).Cmp(less(hasOf(m, k, k), value(pays[k]))) > 0 {
				return k, j, false
			}
		}
	}
	return -1, -1, true
}

func checkHonest(t *testing.T, m api.Menu, pays []api.Frac) bool {
	t.Helper()
	kind, told, ok := toll.Honest(m, pays)
	if k, j, yes := firstLie(m, pays); k != kind || j != told || yes != ok {
		t.Fatal("Honest", kind, told, ok, "but", k, j, yes)
	}
	return ok
}

// checkNone checks what is told of a menu without honest payments.
func checkNone(t *testing.T, r *rand.Rand, m api.Menu) {
	t.Helper()
	n := len(m.Worth)
	pays, cycle, ok, e := toll.Pays(m)
	if ok || e != api.OK || len(pays) != 0 || len(cycle) < 2 || slices.Min(cycle) != cycle[0] {
		t.Fatal("Pays", pays, cycle, ok, e)
	}
	sorted := slices.Sorted(slices.Values(cycle))
	if len(slices.Compact(sorted)) != len(cycle) || gainOf(m, cycle).Sign() <= 0 || !is(toll.Gain(m, cycle), gainOf(m, cycle)) {
		t.Fatal("a cycle that does not gain", cycle)
	}
	for range 3 {
		if checkHonest(t, m, drawSmalls(r, n, 4)) {
			t.Fatal("honest payments, and a cycle", cycle)
		}
	}
	if low, high, e := toll.Spread(m, r.Intn(n), r.Intn(n)); e != api.ErrRule || low.Den != nil || high.Den != nil {
		t.Fatal("Spread", low, high, e)
	}
}

// checkSome checks what is told of a menu with honest payments: those that Pays tells, all spreads, and that the payments that are as far from a kind's as they may be are honest.
func checkSome(t *testing.T, m api.Menu) {
	t.Helper()
	pays, cycle, ok, e := toll.Pays(m)
	if !ok || e != api.OK || len(cycle) != 0 || len(pays) != len(m.Worth) || !checkHonest(t, m, pays) {
		t.Fatal("Pays", pays, cycle, ok, e)
	}
	for a := range m.Worth {
		var most, least []api.Frac
		for b := range m.Worth {
			low, high, e := toll.Spread(m, a, b)
			if e != api.OK || !is(high, mostOver(m, a, b)) || !is(frac.Neg(low), mostOver(m, b, a)) {
				t.Fatal("Spread", a, b, low, high, e)
			}
			most, least = append(most, high), append(least, low)
		}
		if !checkHonest(t, m, most) || !checkHonest(t, m, least) {
			t.Fatal("an end that is not reached", a)
		}
		if a == 0 && !areRightly(pays, most) {
			t.Fatal("payments that are not the greatest", pays)
		}
	}
}

// P6.1: there are honest payments if and only if no cycle gains. P6.2: both ends of each spread are reached, and no payments go beyond.
func TestRochet(t *testing.T) {
	r := rand.New(rand.NewSource(61))
	seen := map[bool]int{}
	for range 1500 {
		m := drawMenu(r, 1+r.Intn(5), 1+r.Intn(4))
		none := gains(m)
		seen[none]++
		if none {
			checkNone(t, r, m)
		} else {
			checkSome(t, m)
		}
	}
	if seen[false] < 200 || seen[true] < 200 {
		t.Error("drawn", seen)
	}
}

// Payments at which each kind chose for itself are honest, and within all spreads.
func TestWithin(t *testing.T) {
	r := rand.New(rand.NewSource(62))
	for range 400 {
		m, pays := drawOffer(r, 1+r.Intn(api.MaxParts), 1+r.Intn(api.MaxOuts))
		if !checkHonest(t, m, pays) {
			t.Fatal("not honest")
		}
		greatest, _, ok, _ := toll.Pays(m)
		if !ok || !checkHonest(t, m, greatest) {
			t.Fatal("no payments")
		}
		for a := range pays {
			for b := range pays {
				more := frac.Sub(pays[b], pays[a])
				low, high, e := toll.Spread(m, a, b)
				if e != api.OK || frac.Cmp(low, more) > 0 || frac.Cmp(more, high) > 0 {
					t.Fatal("Spread", a, b, low, high, more)
				}
				if a == 0 && !isRightly(greatest[b], high) {
					t.Fatal("Pays", b)
				}
			}
		}
	}
}

// program asks for the most that kind b pays more than another kind a.
func program(m api.Menu, a, b int) api.Prog {
	n := len(m.Worth)
	p := api.Prog{Vars: n, Goal: nums(make([]int, n)...)}
	p.Goal[b], p.Goal[a] = num(1, 1), num(-1, 1)
	for k := range n {
		p.Free = append(p.Free, true)
		for j := range n {
			if j != k {
				row := api.Row{A: nums(make([]int, n)...), Sense: api.AtMost}
				row.A[k], row.A[j] = num(1, 1), num(-1, 1)
				row.B = frac.Sub(frac.Dot(m.Worth[k], m.Lots[k]), frac.Dot(m.Worth[k], m.Lots[j]))
				p.Rows = append(p.Rows, row)
			}
		}
	}
	return p
}

// Menus of many kinds, against the proofs of chapter 2.
func TestPrograms(t *testing.T) {
	r := rand.New(rand.NewSource(63))
	for i := range 60 {
		n := 5 + r.Intn(4)
		m, _ := drawOffer(r, n, 1+r.Intn(api.MaxOuts))
		if i%2 == 0 { // one kind is given something else
			m.Lots[r.Intn(n)] = drawLot(r, len(m.Worth[0]))
		}
		a := r.Intn(n)
		b := (a + 1 + r.Intn(n-1)) % n
		c, e := plane.Solve(program(m, a, b))
		if e != api.OK {
			t.Fatal("Solve", e)
		}
		if c.Kind == api.None {
			checkNone(t, r, m)
			continue
		}
		if _, high, e := toll.Spread(m, a, b); e != api.OK || !isRightly(high, plane.Value(program(m, a, b), c.X)) {
			t.Fatal("Spread", a, b, high, e)
		}
	}
}

// A cycle of all kinds, and no shorter one, gains: each likes the next one's outcome a little more than its own, and all others' much less.
func TestLongCycle(t *testing.T) {
	r := rand.New(rand.NewSource(64))
	for n := 2; n <= api.MaxOuts; n++ {
		order := r.Perm(n)
		m := api.Menu{Worth: make([][]api.Frac, n), Lots: make([][]api.Frac, n)}
		for i, k := range order {
			m.Worth[k] = nums(slices.Repeat([]int{-n}, n)...)
			m.Lots[k] = nums(make([]int, n)...)
			m.Worth[k][k], m.Lots[k][k] = num(0, 1), num(1, 1)
			m.Worth[k][order[(i+1)%n]] = num(1, 1)
		}
		_, cycle, ok, e := toll.Pays(m)
		first := slices.Index(order, 0)
		if wanted := slices.Concat(order[first:], order[:first]); ok || e != api.OK || !slices.Equal(cycle, wanted) || !isRightly(toll.Gain(m, cycle), num(n, 1)) {
			t.Error(n, "kinds", cycle, wanted, ok, e)
		}
	}
}

// Honest, by its words, of any payments.
func TestHonest(t *testing.T) {
	r := rand.New(rand.NewSource(65))
	yes := 0
	for range 1000 {
		n := 1 + r.Intn(4)
		m, pays := drawOffer(r, n, 1+r.Intn(3))
		if r.Intn(3) > 0 {
			pays[r.Intn(n)] = drawSmall(r, 3)
		}
		if checkHonest(t, m, pays) {
			yes++
		}
		for _, l := range [][]api.Frac{nil, pays[1:], append(slices.Clone(pays), num(0, 1))} {
			if kind, told, ok := toll.Honest(m, l); kind != -1 || told != -1 || ok {
				t.Fatal("Honest of", len(l), "payments of", n)
			}
		}
	}
	if yes < 200 || yes > 900 {
		t.Error("drawn", yes)
	}
}

// Gain, by its words, of any list of kinds; 0 of what is none.
func TestGain(t *testing.T) {
	r := rand.New(rand.NewSource(66))
	for range 500 {
		n := 1 + r.Intn(api.MaxParts)
		m := drawMenu(r, n, 1+r.Intn(api.MaxOuts))
		var cycle []int
		for range r.Intn(11) {
			cycle = append(cycle, r.Intn(n))
		}
		wanted := gainOf(m, cycle)
		if len(cycle) < 2 || len(cycle) > api.MaxParts {
			wanted = new(big.Rat)
		}
		if got := toll.Gain(m, cycle); !is(got, wanted) {
			t.Fatal("Gain", cycle, frac.Print(got), wanted)
		}
		if len(cycle) > 0 {
			cycle[r.Intn(len(cycle))] = []int{-1, n}[r.Intn(2)]
			if got := toll.Gain(m, cycle); !isRightly(got, num(0, 1)) {
				t.Fatal("Gain of no kind", cycle, frac.Print(got))
			}
		}
	}
}

// wrongMenus is menus that are not right, each by one thing.
func wrongMenus() map[string]api.Menu {
	row := func(n int) []api.Frac { return nums(make([]int, n)...) }
	sure := func(n int) []api.Frac { return append(nums(1), row(n-1)...) }
	of := func(kinds, worths, outs int) api.Menu {
		var m api.Menu
		for range kinds {
			m.Worth, m.Lots = append(m.Worth, row(worths)), append(m.Lots, sure(outs))
		}
		return m
	}
	out := map[string]api.Menu{
		"no kind":        {},
		"no outcome":     {Worth: [][]api.Frac{nil}, Lots: [][]api.Frac{nil}},
		"9 kinds":        of(9, 1, 1),
		"7 outcomes":     of(1, 7, 7),
		"a worth more":   of(2, 3, 2),
		"a worth less":   of(2, 1, 2),
		"no lotteries":   {Worth: [][]api.Frac{nums(1)}},
		"no worths":      {Lots: [][]api.Frac{nums(1)}},
		"a lottery more": {Worth: [][]api.Frac{nums(1)}, Lots: [][]api.Frac{nums(1), nums(1)}},
		"a lottery less": {Worth: [][]api.Frac{nums(1), nums(1)}, Lots: [][]api.Frac{nums(1)}},
		"sums to 2":      {Worth: [][]api.Frac{nums(1, 2)}, Lots: [][]api.Frac{nums(1, 1)}},
		"sums to 1/2":    {Worth: [][]api.Frac{nums(1, 2)}, Lots: [][]api.Frac{{num(1, 4), num(1, 4)}}},
		"below 0":        {Worth: [][]api.Frac{nums(1, 2)}, Lots: [][]api.Frac{nums(2, -1)}},
	}
	for _, name := range []string{"longer worths behind", "longer lotteries behind", "shorter lotteries behind", "a last lottery that sums to 0"} {
		m := of(3, 2, 2)
		switch name {
		case "longer worths behind":
			m.Worth[2] = row(3)
		case "longer lotteries behind":
			m.Lots[2] = sure(3)
		case "shorter lotteries behind":
			m.Lots[2] = sure(1)
		default:
			m.Lots[2] = row(2)
		}
		out[name] = m
	}
	return out
}

func TestWrongMenus(t *testing.T) {
	for name, m := range wrongMenus() {
		n := len(m.Worth)
		if pays, cycle, ok, e := toll.Pays(m); e != api.ErrMenu || pays != nil || cycle != nil || ok {
			t.Error(name, "Pays", pays, cycle, ok, e)
		}
		if low, high, e := toll.Spread(m, 0, 0); e != api.ErrMenu || low.Den != nil || high.Den != nil {
			t.Error(name, "Spread", low, high, e)
		}
		if kind, told, ok := toll.Honest(m, nums(make([]int, n)...)); kind != -1 || told != -1 || ok {
			t.Error(name, "Honest", kind, told, ok)
		}
		if got := toll.Gain(m, []int{0, 0}); !isRightly(got, num(0, 1)) {
			t.Error(name, "Gain", got)
		}
	}
	var m api.Menu
	for range api.MaxParts {
		m.Worth, m.Lots = append(m.Worth, nums(1, 2, 3, 4, 5, 6)), append(m.Lots, nums(0, 0, 0, 0, 0, 1))
	}
	if pays, _, ok, e := toll.Pays(m); e != api.OK || !ok || !areRightly(pays, nums(0, 0, 0, 0, 0, 0, 0, 0)) {
		t.Error("the greatest menu", pays, ok, e)
	}
}

// Spread tells a wrong kind ahead of that there are no payments.
func TestWrongKinds(t *testing.T) {
	none := api.Menu{Worth: [][]api.Frac{nums(3, 0), nums(1, 0)}, Lots: [][]api.Frac{nums(0, 1), nums(1, 0)}}
	some := api.Menu{Worth: none.Worth, Lots: [][]api.Frac{nums(1, 0), nums(0, 1)}}
	for _, m := range []api.Menu{none, some} {
		for _, k := range []int{-1, 2, 1 << 40, -1 << 40} {
			for _, ab := range [][2]int{{k, 0}, {0, k}, {k, k}} {
				if low, high, e := toll.Spread(m, ab[0], ab[1]); e != api.ErrMenu || low.Den != nil || high.Den != nil {
					t.Error("Spread", ab, low, high, e)
				}
			}
		}
	}
	for k := range 2 {
		if _, _, e := toll.Spread(none, k, k); e != api.ErrRule {
			t.Error("Spread of no payments", e)
		}
		if low, high, e := toll.Spread(some, k, k); e != api.OK || !isRightly(low, num(0, 1)) || !isRightly(high, num(0, 1)) {
			t.Error("Spread of a kind and itself", low, high, e)
		}
	}
}
