package hall_test

import (
	"math/big"
	"math/bits"
	"math/rand"
	"slices"
	"testing"

	"unbent/api"
	"unbent/frac"
	"unbent/hall"
)

// drawCost is costs of groups of so many that are right: each of some things costs something as soon as one of its users is there, and a way costs less for each further one.
func drawCost(r *rand.Rand, agents int) []api.Frac {
	out := nums(make([]int, 1<<agents)...)
	for range r.Intn(4) {
		users, price := r.Intn(1<<agents), num(r.Intn(7), 1+r.Intn(2))
		for group := range out {
			if group&users != 0 {
				out[group] = frac.Add(out[group], price)
			}
		}
	}
	step, way := 3+r.Intn(5), []int{0}
	for range agents {
		way = append(way, way[len(way)-1]+step)
		step -= r.Intn(step + 1)
	}
	if r.Intn(2) == 0 {
		for group := range out {
			out[group] = frac.Add(out[group], num(way[bits.OnesCount(uint(group))], 1))
		}
	}
	return out
}

// shareOf is the share of one in a group, by the chapter's words: over all orders.
func shareOf(cost []*big.Rat, group []int, one int) *big.Rat {
	all := allOrders(len(group))
	out := new(big.Rat)
	for _, order := range all {
		first := 0
		for _, place := range order {
			if group[place] == one {
				break
			}
			first |= 1 << group[place]
		}
		out.Add(out, less(cost[first|1<<one], cost[first]))
	}
	return times(out, rat(1, int64(len(all))))
}

// charged is what Charge is to tell, by its words.
func charged(cost, bids []*big.Rat) ([]int, []*big.Rat) {
	group := 1<<len(bids) - 1
	for {
		var pays []*big.Rat
		goes := 0
		for one, bid := range bids {
			pays = append(pays, new(big.Rat))
			if group&(1<<one) == 0 {
				continue
			}
			pays[one] = shareOf(cost, groupOf(group), one)
			if bid.Cmp(pays[one]) < 0 {
				goes |= 1 << one
			}
		}
		if goes == 0 {
			return groupOf(group), pays
		}
		group -= goes
	}
}

// numberOf is the number of a group.
func numberOf(group []int) int {
	out := 0
	for _, one := range group {
		out |= 1 << one
	}
	return out
}

func charge(t *testing.T, cost, bids []api.Frac) ([]int, []api.Frac) {
	t.Helper()
	served, pays, e := hall.Charge(cost, bids)
	if e != api.OK || len(pays) != len(bids) {
		t.Fatal("Charge", cost, bids, served, pays, e)
	}
	return served, pays
}

// drawBids is bids about what there is to pay, often just that.
func drawBids(r *rand.Rand, cost []api.Frac, agents int) []api.Frac {
	var out []api.Frac
	for i := range agents {
		bid := num(r.Intn(9)-1, 1+r.Intn(2))
		if group := r.Intn(1<<agents) | 1<<i; r.Intn(2) == 0 {
			bid = fracOf(shareOf(values(cost), groupOf(group), i))
		}
		out = append(out, bid)
	}
	return out
}

// fracOf is a fraction of a number that is not long.
func fracOf(x *big.Rat) api.Frac {
	f, _ := frac.Parse(x.RatString())
	return f
}

// P7.1: Charge; and P7.8: what is paid is the cost of those that are served, nobody pays more than it bids or is paid, and who is not served could not pay its share in any group of which all can.
func TestCharge(t *testing.T) {
	r := rand.New(rand.NewSource(61))
	some := map[int]int{}
	for i := range 1200 {
		agents := r.Intn(5)
		if i < 12 {
			agents = 5 + i%2
		}
		cost := drawCost(r, agents)
		bids := drawBids(r, cost, agents)
		served, pays := charge(t, cost, bids)
		wanted, wantedPays := charged(values(cost), values(bids))
		if !slices.Equal(served, wanted) || !areAll(pays, wantedPays) {
			t.Fatal("Charge", cost, bids, served, pays, wanted, wantedPays)
		}
		some[len(served)]++
		group := numberOf(served)
		if value(cost[group]).Cmp(sum(values(pays))) != 0 {
			t.Fatal("not the cost", cost, bids, served, pays)
		}
		for i, pay := range pays {
			if frac.Sign(pay) < 0 || slices.Contains(served, i) && frac.Cmp(pay, bids[i]) > 0 || !slices.Contains(served, i) && frac.Sign(pay) != 0 {
				t.Fatal("a payment", cost, bids, served, pays)
			}
		}
		for other := range cost {
			if canPay(values(cost), values(bids), groupOf(other)) && other&^group != 0 {
				t.Fatal("who could pay is not served", cost, bids, served, other)
			}
		}
	}
	if some[0] < 50 || some[1] < 50 || some[2] < 50 || some[3] < 50 || some[4] < 50 {
		t.Error("served", some)
	}
}

// canPay reports whether each of a group bids its share at least.
func canPay(cost, bids []*big.Rat, group []int) bool {
	for _, one := range group {
		if bids[one].Cmp(shareOf(cost, group, one)) < 0 {
			return false
		}
	}
	return true
}

// left is what each has of what is served to it, or 0.
func left(t *testing.T, cost, worths, bids []api.Frac) []*big.Rat {
	t.Helper()
	served, pays := charge(t, cost, bids)
	out := make([]*big.Rat, len(bids))
	for i := range out {
		out[i] = new(big.Rat)
		if slices.Contains(served, i) {
			out[i] = less(value(worths[i]), value(pays[i]))
		}
	}
	return out
}

// checkBids checks that no group gains, if its members bid some of these: if one of them has more, another one has less (P7.8).
func checkBids(t *testing.T, cost, worths []api.Frac, lies []api.Frac) {
	t.Helper()
	truly := left(t, cost, worths, worths)
	for group := 1; group < 1<<len(worths); group++ {
		members := groupOf(group)
		for _, lie := range allChoices(len(members), lies) {
			bids := slices.Clone(worths)
			for i, one := range members {
				bids[one] = lie[i]
			}
			has := left(t, cost, worths, bids)
			better, worse := 0, 0
			for _, one := range members {
				switch change := has[one].Cmp(truly[one]); {
				case change > 0:
					better++
				case change < 0:
					worse++
				}
			}
			if better > 0 && worse == 0 {
				t.Fatal("a lie gains", cost, worths, members, lie)
			}
		}
	}
}

// P7.8: nobody gains by another bid, nor does a group.
func TestChargeLies(t *testing.T) {
	r := rand.New(rand.NewSource(62))
	for range 100 {
		agents := 1 + r.Intn(3)
		cost := drawCost(r, agents)
		worths := drawBids(r, cost, agents)
		lies := slices.Concat(nums(-1, 0, 100), drawBids(r, cost, agents))
		checkBids(t, cost, worths, lies)
	}
	for range 3 {
		cost := drawCost(r, 4)
		checkBids(t, cost, drawBids(r, cost, 4), nums(0, 2, 100))
	}
}

// A bid that is just the share is enough, also one of 0; one below 0 never is.
func TestChargeAtTheShare(t *testing.T) {
	for _, c := range []struct {
		cost, bids []int
		served     []int
		pays       []int
	}{
		{[]int{0}, nil, nil, nil},
		{[]int{0, 4}, []int{4}, []int{0}, []int{4}},
		{[]int{0, 4}, []int{3}, nil, []int{0}},
		{[]int{0, 0}, []int{0}, []int{0}, []int{0}},
		{[]int{0, 0}, []int{-1}, nil, []int{0}},
		{[]int{0, 4, 4, 6}, []int{3, 3}, []int{0, 1}, []int{3, 3}},
		{[]int{0, 4, 4, 6}, []int{2, 5}, []int{1}, []int{0, 4}},
		{[]int{0, 4, 4, 6}, []int{2, 3}, nil, []int{0, 0}},
		{[]int{0, 4, 4, 6}, []int{5, 2}, []int{0}, []int{4, 0}},
		{[]int{0, 0, 6, 6}, []int{0, 6}, []int{0, 1}, []int{0, 6}},
		{[]int{0, 6, 6, 6, 6, 6, 6, 6}, []int{2, 2, 2}, []int{0, 1, 2}, []int{2, 2, 2}},
		{[]int{0, 6, 6, 6, 6, 6, 6, 6}, []int{1, 3, 3}, []int{1, 2}, []int{0, 3, 3}},
		{[]int{0, 6, 6, 6, 6, 6, 6, 6}, []int{1, 2, 9}, []int{2}, []int{0, 0, 6}},
		{[]int{0, 6, 6, 6, 6, 6, 6, 6}, []int{1, 1, 9}, []int{2}, []int{0, 0, 6}},
	} {
		served, pays := charge(t, nums(c.cost...), nums(c.bids...))
		if !slices.Equal(served, c.served) || !areRightly(pays, nums(c.pays...)) {
			t.Error(c.cost, c.bids, served, pays)
		}
	}
}

// rightly reports whether costs are right, by the chapter's words: all pairs of groups.
func rightly(cost []*big.Rat) bool {
	for s := range cost {
		for u := range cost {
			if s&u == s && cost[u].Cmp(cost[s]) < 0 || plus(cost[s|u], cost[s&u]).Cmp(plus(cost[s], cost[u])) > 0 {
				return false
			}
		}
	}
	return cost[0].Sign() == 0
}

func TestCosts(t *testing.T) {
	r := rand.New(rand.NewSource(63))
	found := map[bool]int{}
	for range 4000 {
		agents := r.Intn(4)
		cost := drawCost(r, agents)
		for range r.Intn(3) {
			group := r.Intn(len(cost))
			cost[group] = frac.Add(cost[group], num(r.Intn(3)-1, 1+r.Intn(2)))
		}
		served, pays, e := hall.Charge(cost, nums(make([]int, agents)...))
		right := rightly(values(cost))
		if right && e != api.OK || !right && (e != api.ErrCost || served != nil || pays != nil) {
			t.Fatal("costs", cost, right, e)
		}
		found[right]++
	}
	if found[true] < 500 || found[false] < 500 {
		t.Error("found", found)
	}
}

// Costs of as many as there may be, one of which is not right.
func TestCostsOfSix(t *testing.T) {
	bids := nums(9, 9, 9, 9, 9, 9)
	even := func() []api.Frac {
		var out []api.Frac
		for group := range 64 {
			n := bits.OnesCount(uint(group))
			out = append(out, num(n*(20-n), 1))
		}
		return out
	}
	if _, _, e := hall.Charge(even(), bids); e != api.OK {
		t.Fatal("right costs", e)
	}
	for group := range 64 {
		for _, more := range []int{-20, -2, -1, 1, 2, 20} {
			cost := even()
			cost[group] = frac.Add(cost[group], num(more, 1))
			_, _, e := hall.Charge(cost, bids)
			if right := rightly(values(cost)); right != (e == api.OK) || !right && e != api.ErrCost {
				t.Error("group", group, more, right, e)
			}
		}
	}
}

func TestWrongCosts(t *testing.T) {
	for name, c := range map[string]struct{ cost, bids []api.Frac }{
		"no costs":                 {nil, nil},
		"no costs, a bid":          {nil, nums(1)},
		"a cost of nobody":         {nums(1), nil},
		"nobody below 0":           {nums(-1), nil},
		"one cost too few":         {nums(0, 1, 1), nums(1, 1)},
		"one cost too many":        {nums(0, 1, 1, 1, 1), nums(1, 1)},
		"costs of one more":        {nums(0, 1, 1, 1), nums(1)},
		"far too many":             {nums(make([]int, 5000)...), nums(1)},
		"nobody has a cost":        {nums(1, 1), nums(1)},
		"a cost below 0":           {nums(0, -1), nums(1)},
		"costs that fall":          {nums(0, 4, 4, 3), nums(1, 1)},
		"dearer together":          {nums(0, 1, 1, 3), nums(1, 1)},
		"dearer with a third one":  {nums(0, 2, 2, 3, 2, 3, 3, 5), nums(1, 1, 1)},
		"costs that stand for 0":   {[]api.Frac{wrong(), num(1, 1), wrong(), num(1, 1), wrong(), num(1, 1), num(1, 1), num(2, 1)}, nums(1, 1, 1)},
		"costs of six, all but 63": {nums(make([]int, 63)...), nums(1, 1, 1, 1, 1, 1)},
	} {
		if served, pays, e := hall.Charge(c.cost, c.bids); served != nil || pays != nil || e != api.ErrCost {
			t.Error(name, served, pays, e)
		}
	}
}
