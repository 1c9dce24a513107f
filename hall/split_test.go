package hall_test

import (
	"math/big"
	"math/rand"
	"slices"
	"testing"

	"unbent/api"
	"unbent/frac"
	"unbent/hall"
)

// mixed is the matrix of assignments with weights.
func mixed(n int, perms []api.Perm) [][]api.Frac {
	out := make([][]api.Frac, n)
	for i := range out {
		out[i] = nums(make([]int, n)...)
	}
	for _, p := range perms {
		for i, to := range p.To {
			out[i][to] = frac.Add(out[i][to], p.Weight)
		}
	}
	return out
}

// drawMatrix is a matrix whose rows and columns sum to 1: a mixture of so many assignments.
func drawMatrix(r *rand.Rand, n, parts int) [][]api.Frac {
	var perms []api.Perm
	all := 0
	for range parts {
		weight := 1 + r.Intn(5)
		perms = append(perms, api.Perm{To: r.Perm(n), Weight: num(weight, 1)})
		all += weight
	}
	for i := range perms {
		perms[i].Weight = frac.Mul(perms[i].Weight, num(1, all))
	}
	return mixed(n, perms)
}

// part is an assignment with its weight.
type part struct {
	to     []int
	weight *big.Rat
}

// partsOf is what Split is to tell, by its words: each time from the first assignment on.
func partsOf(m [][]api.Frac) []part {
	var left [][]*big.Rat
	for _, row := range m {
		left = append(left, values(row))
	}
	least := func(to []int) *big.Rat {
		out := left[0][to[0]]
		for i, j := range to {
			if left[i][j].Cmp(out) < 0 {
				out = left[i][j]
			}
		}
		return out
	}
	all := allOrders(len(m))
	var out []part
	for {
		first := slices.IndexFunc(all, func(to []int) bool { return least(to).Sign() > 0 })
		if first < 0 {
			return out
		}
		to := all[first]
		weight := least(to)
		out = append(out, part{to, weight})
		for i, j := range to {
			left[i][j] = less(left[i][j], weight)
		}
	}
}

func isPart(p api.Perm, wanted part) bool {
	return slices.Equal(p.To, wanted.to) && is(p.Weight, wanted.weight)
}

// checkSplit checks what Split tells by its words, and P7.6; it is how many assignments there are.
func checkSplit(t *testing.T, m [][]api.Frac) int {
	t.Helper()
	n := len(m)
	told, e := hall.Split(m)
	if e != api.OK || !slices.EqualFunc(told, partsOf(m), isPart) {
		t.Fatal("Split", m, told, e)
	}
	all := new(big.Rat)
	for _, p := range told {
		if frac.Sign(p.Weight) <= 0 {
			t.Fatal("a weight that is not above 0", m, told)
		}
		all.Add(all, value(p.Weight))
	}
	if all.Cmp(rat(1, 1)) != 0 || len(told) > (n-1)*(n-1)+1 || !slices.EqualFunc(mixed(n, told), m, areRightly) {
		t.Fatal("another matrix", m, told)
	}
	return len(told)
}

// P7.1, P7.6: Split.
func TestSplit(t *testing.T) {
	r := rand.New(rand.NewSource(41))
	most := map[int]int{}
	for i := range 600 {
		n := 1 + r.Intn(4)
		if i < 40 {
			n = 5 + i%2
		}
		most[n] = max(most[n], checkSplit(t, drawMatrix(r, n, 1+r.Intn(n*n))))
	}
	for n, wanted := range []int{1: 1, 2: 2, 3: 5, 4: 8, 5: 11, 6: 15} {
		if most[n] < wanted {
			t.Error("of", n, "rows at most", most[n], "assignments")
		}
	}
}

func TestSplitOfFew(t *testing.T) {
	for _, n := range []int{1, 2, 6} {
		even := make([][]api.Frac, n)
		for i := range even {
			for range n {
				even[i] = append(even[i], num(1, n))
			}
		}
		if got := checkSplit(t, even); got != n {
			t.Error("of even entries", n, got)
		}
	}
	for _, to := range allOrders(4) {
		if got := checkSplit(t, mixed(4, []api.Perm{{To: to, Weight: num(1, 1)}})); got != 1 {
			t.Error("of one assignment", to, got)
		}
	}
}

// wrongMatrices is matrices that are not right, each by one thing.
func wrongMatrices() map[string][][]api.Frac {
	half, third := num(1, 2), num(1, 3)
	return map[string][][]api.Frac{
		"no rows":                  nil,
		"rows of nothing":          {nil},
		"a column too few":         {{num(1, 1)}, {num(0, 1)}},
		"a column too many":        {nums(1, 0)},
		"a row too short":          {{half, half}, {half}},
		"a row too long":           {{half, half}, {half, half, num(0, 1)}},
		"a row far too long":       {{half, half}, make([]api.Frac, 5000)},
		"an entry below 0":         {nums(2, -1), nums(-1, 2)},
		"rows that sum to less":    {{half, third}, {half, third}},
		"rows that sum to more":    {nums(1, 0), nums(0, 2)},
		"columns that differ":      {nums(1, 0), nums(1, 0)},
		"rows that differ":         {nums(1, 1), nums(0, 0)},
		"only the first sums to 1": {nums(1, 0, 0), {num(0, 1), half, third}, {num(0, 1), half, third}},
		"all 0":                    {nums(0, 0), nums(0, 0)},
		"a number that is wrong":   {{wrong(), num(0, 1)}, {num(0, 1), num(1, 1)}},
	}
}

func TestWrongMatrices(t *testing.T) {
	for name, m := range wrongMatrices() {
		if l, e := hall.Split(m); l != nil || e != api.ErrMatrix {
			t.Error(name, l, e)
		}
	}
}
