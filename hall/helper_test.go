package hall_test

import (
	"math/big"
	"math/rand"
	"slices"

	"unbent/api"
	"unbent/frac"
)

func num(p, q int) api.Frac {
	f, e := frac.Make(p, q)
	if e != api.OK {
		panic("no fraction")
	}
	return f
}

func nums(l ...int) []api.Frac {
	var out []api.Frac
	for _, n := range l {
		out = append(out, num(n, 1))
	}
	return out
}

// wrong is a fraction that is not right: 2/2. Its Fix is 0.
func wrong() api.Frac { return api.Frac{Num: []uint32{2}, Den: []uint32{2}} }

// long is a number of so many words above.
func long(words int) api.Frac {
	num := make([]uint32, words)
	num[0], num[words-1] = 1, 1
	return api.Frac{Num: num, Den: []uint32{1}}
}

// inverse is one by a number.
func inverse(f api.Frac) api.Frac {
	out, _ := frac.Div(num(1, 1), f)
	return out
}

// isRightly reports whether f is right, and what is said.
func isRightly(f, said api.Frac) bool { return frac.Right(f) && frac.Cmp(f, said) == 0 }

func areRightly(l, said []api.Frac) bool { return slices.EqualFunc(l, said, isRightly) }

// value is the number of a fraction in numbers of math/big, in which the tests read the chapter once more: of one that is not right it is 0.
func value(f api.Frac) *big.Rat {
	if !frac.Right(f) {
		return new(big.Rat)
	}
	out := new(big.Rat).SetFrac(whole(f.Num), whole(f.Den))
	if f.Neg {
		out.Neg(out)
	}
	return out
}

func whole(words []uint32) *big.Int {
	out := new(big.Int)
	for i := len(words) - 1; i >= 0; i-- {
		out.Add(out.Lsh(out, 32), big.NewInt(int64(words[i])))
	}
	return out
}

func values(l []api.Frac) []*big.Rat {
	var out []*big.Rat
	for _, f := range l {
		out = append(out, value(f))
	}
	return out
}

// is reports whether f is right and just x; areAll that of each.
func is(f api.Frac, x *big.Rat) bool { return frac.Right(f) && value(f).Cmp(x) == 0 }

func areAll(l []api.Frac, x []*big.Rat) bool { return slices.EqualFunc(l, x, is) }

func rat(p, q int64) *big.Rat { return big.NewRat(p, q) }

func plus(a, b *big.Rat) *big.Rat { return new(big.Rat).Add(a, b) }

func less(a, b *big.Rat) *big.Rat { return new(big.Rat).Sub(a, b) }

func times(a, b *big.Rat) *big.Rat { return new(big.Rat).Mul(a, b) }

func sum(l []*big.Rat) *big.Rat {
	out := new(big.Rat)
	for _, x := range l {
		out.Add(out, x)
	}
	return out
}

// allLists is all right lists over so many things.
func allLists(things int) [][]int {
	out := [][]int{nil}
	for at := 0; at < len(out); at++ {
		for thing := range things {
			if !slices.Contains(out[at], thing) {
				out = append(out, append(slices.Clone(out[at]), thing))
			}
		}
	}
	return out
}

// allOrders is all orders of 0 to n - 1, the first difference counting.
func allOrders(n int) [][]int {
	all := allLists(n)
	all = slices.DeleteFunc(all, func(l []int) bool { return len(l) < n })
	slices.SortFunc(all, slices.Compare)
	return all
}

// allChoices is all rows of so many entries, each one of some.
func allChoices[T any](entries int, some []T) [][]T {
	out := [][]T{nil}
	for range entries {
		var longer [][]T
		for _, row := range out {
			for _, one := range some {
				longer = append(longer, append(slices.Clone(row), one))
			}
		}
		out = longer
	}
	return out
}

// drawList is a right list, often a total one.
func drawList(r *rand.Rand, things int) []int {
	all := r.Perm(things)
	if r.Intn(3) == 0 {
		return all
	}
	return all[:r.Intn(things+1)]
}

func drawLists(r *rand.Rand, n, things int) [][]int {
	var out [][]int
	for range n {
		out = append(out, drawList(r, things))
	}
	return out
}

func drawTotals(r *rand.Rand, n int) [][]int {
	var out [][]int
	for range n {
		out = append(out, r.Perm(n))
	}
	return out
}

// liking is how well one likes a thing: above 0 what is in its list, 0 to be without, below 0 what is not in it.
func liking(list []int, thing int) int {
	for i, t := range list {
		if t == thing {
			return len(list) - i
		}
	}
	if thing == -1 {
		return 0
	}
	return -1
}

// with is lists with another one at a place.
func with[T any](lists []T, at int, other T) []T {
	out := slices.Clone(lists)
	out[at] = other
	return out
}
