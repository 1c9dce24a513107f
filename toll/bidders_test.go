package toll_test

import (
	"math/big"
	"math/rand"
	"testing"

	"unbent/api"
	"unbent/frac"
	"unbent/rule"
	"unbent/seek"
	"unbent/speech"
	"unbent/toll"
)

// drawBidder is a bidder with so many values.
func drawBidder(r *rand.Rand, n int) api.Bidder {
	b := api.Bidder{Values: drawRising(r, n, 4)}
	for range n {
		b.Weights = append(b.Weights, num(1+r.Intn(4), 1+r.Intn(3)))
	}
	return b
}

// drawBidders is bidders who are right.
func drawBidders(r *rand.Rand) []api.Bidder {
	var out []api.Bidder
	left := api.MaxProfiles
	for range 1 + r.Intn(api.MaxBidders) {
		n := 1 + r.Intn(min(api.MaxKinds, left))
		left /= n
		b := drawBidder(r, n)
		if len(out) > 0 && len(out[0].Values) <= left*n && r.Intn(3) == 0 { // two alike
			b = out[0]
			left = left * n / len(b.Values)
		}
		out = append(out, b)
	}
	return out
}

// sumOf is the sum of some numbers.
func sumOf(l []api.Frac) *big.Rat {
	out := new(big.Rat)
	for _, f := range l {
		out.Add(out, value(f))
	}
	return out
}

// virtualsOf is the virtual values.
func virtualsOf(b api.Bidder) []*big.Rat {
	out := values(b.Values)
	for i := range len(out) - 1 {
		keeps := times(less(value(b.Values[i+1]), value(b.Values[i])), sumOf(b.Weights[i+1:]))
		out[i] = less(out[i], by(keeps, value(b.Weights[i])))
	}
	return out
}

// ironedOf is the ironed values in another way: the greatest, over all starts up to a value, of the least mean, over all ends from it on.
func ironedOf(b api.Bidder) []*big.Rat {
	virtual := virtualsOf(b)
	mean := func(from, to int) *big.Rat {
		sum := new(big.Rat)
		for i := from; i < to; i++ {
			sum.Add(sum, times(virtual[i], value(b.Weights[i])))
		}
		return by(sum, sumOf(b.Weights[from:to]))
	}
	var out []*big.Rat
	for i := range virtual {
		var most *big.Rat
		for from := range i + 1 {
			least := mean(from, i+1)
			for to := i + 2; to <= len(virtual); to++ {
				if m := mean(from, to); m.Cmp(least) < 0 {
					least = m
				}
			}
			if most == nil || least.Cmp(most) > 0 {
				most = least
			}
		}
		out = append(out, most)
	}
	return out
}

// Virtual and ironed values, by their words. P6.6: ironed ones never fall, and their weighted sums are at most those of the virtual ones, and the same behind the last one.
func TestIroned(t *testing.T) {
	r := rand.New(rand.NewSource(91))
	for i := range 600 {
		n := 1 + r.Intn(6)
		if i < 5 {
			n = api.MaxCuts - i
		}
		b := drawBidder(r, n)
		virtual, e := toll.Virtual(b)
		ironed, f := toll.Ironed(b)
		if e != api.OK || f != api.OK || !areAll(virtual, virtualsOf(b)) || n <= 10 && !areAll(ironed, ironedOf(b)) || len(ironed) != n {
			t.Fatal(b, virtual, ironed, e, f)
		}
		above := new(big.Rat) // what the virtual ones sum to more
		for k := range ironed {
			if k > 0 && frac.Cmp(ironed[k], ironed[k-1]) < 0 {
				t.Fatal("ironed values fall", b, ironed)
			}
			above.Add(above, times(value(b.Weights[k]), less(value(virtual[k]), value(ironed[k]))))
			if above.Sign() < 0 || k == n-1 && above.Sign() != 0 {
				t.Fatal("sums", b, virtual, ironed)
			}
		}
	}
}

// GameOf, by its words.
func TestGameOf(t *testing.T) {
	bs := []api.Bidder{
		{Values: nums(-1, 0), Weights: []api.Frac{num(1, 2), num(3, 1)}},
		{Values: nums(2), Weights: nums(5)},
		{Values: []api.Frac{num(1, 3), num(1, 2), num(7, 1), num(9, 1)}, Weights: nums(1, 2, 3, 4)},
	}
	for n, wanted := range []string{
		1: "game pay paid\nouts nobody one\nagent one\nkind a 1/2 0 0 -1\nkind b 3 0 0 0\npart\n",
		2: "game pay paid\nouts nobody one two\nagent one\nkind a 1/2 0 0 -1 0\nkind b 3 0 0 0 0\nagent two\nkind a 5 0 0 0 2\npart\n",
		3: "game pay paid\nouts nobody one two three\nagent one\nkind a 1/2 0 0 -1 0 0\nkind b 3 0 0 0 0 0\nagent two\nkind a 5 0 0 0 2 0\nagent three\nkind a 1 0 0 0 0 1/3\nkind b 2 0 0 0 0 1/2\nkind c 3 0 0 0 0 7\nkind d 4 0 0 0 0 9\npart\n",
	} {
		if g, e := toll.GameOf(bs[:n]); n > 0 && (e != api.OK || speech.Print(g) != wanted) {
			t.Error(n, "bidders", e, speech.Print(g))
		}
	}
}

// wins is who has the thing at a profile, nobody if no ironed value is above 0.
func wins(ironed [][]*big.Rat, profile []int) int {
	at, most := nobody, new(big.Rat)
	for a, k := range profile {
		if ironed[a][k].Cmp(most) > 0 {
			at, most = a, ironed[a][k]
		}
	}
	return at
}

// The auction, by its words; it is truthful, and nobody has less than 0; it takes the weighted sum of the greatest ironed values above 0 (P6.5).
func TestAuction(t *testing.T) {
	r := rand.New(rand.NewSource(92))
	sold := 0
	for range 500 {
		bs := drawBidders(r)
		g, e := toll.GameOf(bs)
		law, f := toll.Auction(bs)
		if e != api.OK || f != api.OK || rule.Right(g, law) != api.OK {
			t.Fatal("Auction", bs, e, f)
		}
		var ironed [][]*big.Rat
		for _, b := range bs {
			ironed = append(ironed, ironedOf(b))
		}
		takes := new(big.Rat)
		for i, profile := range speech.Profiles(g) {
			winner := wins(ironed, profile)
			wanted := api.Cell{Lot: nums(make([]int, len(bs)+1)...), Pay: nums(make([]int, len(bs))...)}
			wanted.Lot[winner+1] = num(1, 1)
			if winner != nobody {
				sold++
				own := profile[winner]
				for own > 0 && wins(ironed, speech.Put(profile, winner, own-1)) == winner {
					own--
				}
				wanted.Pay[winner] = bs[winner].Values[own]
				takes.Add(takes, times(value(speech.Weight(g, profile)), ironed[winner][profile[winner]]))
			}
			if !sameCells(law.Cells[i:i+1], []api.Cell{wanted}) {
				t.Fatal(bs, profile, law.Cells[i], wanted)
			}
		}
		if !is(rule.Aim(g, law), takes) {
			t.Fatal("takes", bs, frac.Print(rule.Aim(g, law)), takes)
		}
		if lie, ok := rule.Truthful(g, law); !ok {
			t.Fatal("a lie gains", bs, lie)
		}
		if at, ok := rule.Meets(g, law); !ok {
			t.Fatal("need", at, bs)
		}
	}
	if sold < 500 {
		t.Error("sold", sold)
	}
}

// P6.5: no truthful rule, with lotteries or without, takes more.
func TestTakesMost(t *testing.T) {
	r := rand.New(rand.NewSource(93))
	found := map[bool]int{}
	for i := range 100 {
		bs := drawBidders(r)
		g, _ := toll.GameOf(bs)
		law, _ := toll.Auction(bs)
		g.Lots = i%2 > 0
		if seek.Findable(g) != api.OK { // too large for chapter 5
			continue
		}
		found[g.Lots]++
		a, e := seek.Find(g)
		if e != api.OK || a.Kind != api.Best || frac.Cmp(rule.Aim(g, a.Rule), rule.Aim(g, law)) != 0 {
			t.Fatal(speech.Print(g), e, a.Kind, frac.Print(rule.Aim(g, a.Rule)), frac.Print(rule.Aim(g, law)))
		}
	}
	if found[true] < 20 || found[false] < 20 {
		t.Error("found", found)
	}
}

// One of several who are alike has the thing, the first one; at a greatest ironed value of 0 nobody.
func TestTies(t *testing.T) {
	b := api.Bidder{Values: nums(1, 2), Weights: nums(1, 1)}
	law, e := toll.Auction([]api.Bidder{b, b, b})
	if e != api.OK || len(law.Cells) != 8 {
		t.Fatal("three alike", e)
	}
	for i, wanted := range []int{0, 3, 2, 2, 1, 1, 1, 1} {
		pays := nums(0, 0, 0)
		if wanted > 0 {
			pays[wanted-1] = num(2, 1)
		}
		if c := law.Cells[i]; !isRightly(c.Lot[wanted], num(1, 1)) || !areRightly(c.Pay, pays) {
			t.Error("cell", i, c)
		}
	}
	law, e = toll.Auction([]api.Bidder{{Values: nums(-3, 0), Weights: nums(1, 1)}})
	if e != api.OK || !isRightly(law.Cells[1].Lot[0], num(1, 1)) || !isRightly(law.Cells[1].Pay[0], num(0, 1)) {
		t.Error("a value of 0", law, e)
	}
}

// wrongBidder is bidders who are not right, each by one thing.
func wrongBidder() map[string]api.Bidder {
	return map[string]api.Bidder{
		"nothing":          {},
		"no weights":       {Values: nums(1)},
		"no values":        {Weights: nums(1)},
		"a weight more":    {Values: nums(1), Weights: nums(1, 1)},
		"a weight less":    {Values: nums(1, 2), Weights: nums(1)},
		"a value twice":    {Values: nums(1, 2, 2), Weights: nums(1, 1, 1)},
		"values that fall": {Values: nums(2, 1), Weights: nums(1, 1)},
		"a weight of 0":    {Values: nums(1, 2), Weights: nums(1, 0)},
		"a weight below 0": {Values: nums(1, 2), Weights: nums(-1, 1)},
	}
}

// bidderOf has n values and weights.
func bidderOf(n int) api.Bidder {
	var b api.Bidder
	for i := range n {
		b.Values, b.Weights = append(b.Values, num(i, 1)), append(b.Weights, num(1, 1))
	}
	return b
}

func TestWrongBidders(t *testing.T) {
	wrong := wrongBidder()
	wrong["41 values"] = bidderOf(api.MaxCuts + 1)
	all := [][]api.Bidder{nil, {bidderOf(1), bidderOf(1), bidderOf(1), bidderOf(1)}, {bidderOf(5)}, {bidderOf(4), bidderOf(2), bidderOf(3)}, {bidderOf(3), bidderOf(3), bidderOf(2)}}
	for name, b := range wrong {
		if l, e := toll.Virtual(b); e != api.ErrBids || l != nil {
			t.Error(name, "Virtual", l, e)
		}
		if l, e := toll.Ironed(b); e != api.ErrBids || l != nil {
			t.Error(name, "Ironed", l, e)
		}
		all = append(all, []api.Bidder{b}, []api.Bidder{bidderOf(2), b}, []api.Bidder{b, bidderOf(1), bidderOf(1)})
	}
	for _, bs := range all {
		if g, e := toll.GameOf(bs); e != api.ErrBids || g.Agents != nil || g.Outs != nil || g.Pay || g.Aim != 0 || g.Needs != nil {
			t.Error("GameOf", bs, g, e)
		}
		if law, e := toll.Auction(bs); e != api.ErrBids || law.Cells != nil {
			t.Error("Auction", bs, law, e)
		}
	}
	if l, e := toll.Ironed(bidderOf(api.MaxCuts)); e != api.OK || len(l) != api.MaxCuts {
		t.Error("40 values", l, e)
	}
	for _, bs := range [][]api.Bidder{{bidderOf(4), bidderOf(2), bidderOf(2)}, {bidderOf(4), bidderOf(4)}, {bidderOf(1), bidderOf(4), bidderOf(4)}} {
		if law, e := toll.Auction(bs); e != api.OK || len(law.Cells) != 16 {
			t.Error("16 profiles", len(law.Cells), e)
		}
	}
}
