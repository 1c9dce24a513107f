package toll_test

import (
	"math/big"
	"math/rand"
	"slices"

	"unbent/api"
	"unbent/frac"
)

func num(p, q int) api.Frac {
	f, e := frac.Make(p, q)
	if e != api.OK {
		panic("no fraction")
	}
	return f
}

func nums(l ...int) []api.Frac {
	var out []api.Frac
	for _, n := range l {
		out = append(out, num(n, 1))
	}
	return out
}

// wrong is a fraction that is not right: 2/2. Its Fix is 0.
func wrong() api.Frac { return api.Frac{Num: []uint32{2}, Den: []uint32{2}} }

// long is a number of so many words above.
func long(words int) api.Frac {
	num := make([]uint32, words)
	num[0], num[words-1] = 1, 1
	return api.Frac{Num: num, Den: []uint32{1}}
}

// isRightly reports whether f is right, and what is said.
func isRightly(f, said api.Frac) bool { return frac.Right(f) && frac.Cmp(f, said) == 0 }

func areRightly(l, said []api.Frac) bool { return slices.EqualFunc(l, said, isRightly) }

func sameCells(a, b []api.Cell) bool {
	return slices.EqualFunc(a, b, func(c, d api.Cell) bool { return areRightly(c.Lot, d.Lot) && areRightly(c.Pay, d.Pay) })
}

func sameBend(a, b api.Bend) bool {
	return isRightly(a.True, b.True) && isRightly(a.Told, b.Told) && isRightly(a.Gain, b.Gain)
}

func noBend() api.Bend { return api.Bend{True: num(0, 1), Told: num(0, 1), Gain: num(0, 1)} }

// value is the number of a fraction in numbers of math/big, in which the tests read the chapter once more: of one that is not right it is 0.
func value(f api.Frac) *big.Rat {
	if !frac.Right(f) {
		return new(big.Rat)
	}
	out := new(big.Rat).SetFrac(whole(f.Num), whole(f.Den))
	if f.Neg {
		out.Neg(out)
	}
	return out
}

func whole(words []uint32) *big.Int {
	out := new(big.Int)
	for i := len(words) - 1; i >= 0; i-- {
		out.Add(out.Lsh(out, 32), big.NewInt(int64(words[i])))
	}
	return out
}

func values(l []api.Frac) []*big.Rat {
	var out []*big.Rat
	for _, f := range l {
		out = append(out, value(f))
	}
	return out
}

// is reports whether f is right and just x; areAll that of each.
func is(f api.Frac, x *big.Rat) bool { return frac.Right(f) && value(f).Cmp(x) == 0 }

func areAll(l []api.Frac, x []*big.Rat) bool { return slices.EqualFunc(l, x, is) }

func rat(p, q int64) *big.Rat { return big.NewRat(p, q) }

func plus(a, b *big.Rat) *big.Rat { return new(big.Rat).Add(a, b) }

func less(a, b *big.Rat) *big.Rat { return new(big.Rat).Sub(a, b) }

func times(a, b *big.Rat) *big.Rat { return new(big.Rat).Mul(a, b) }

func by(a, b *big.Rat) *big.Rat { return new(big.Rat).Quo(a, b) }

// dot is the sum of the products.
func dot(a, b []api.Frac) *big.Rat {
	out := new(big.Rat)
	for i := range a {
		out.Add(out, times(value(a[i]), value(b[i])))
	}
	return out
}

// drawSmall is a number from -most to most, often a whole one, so that many numbers are equal.
func drawSmall(r *rand.Rand, most int) api.Frac {
	return num(r.Intn(2*most+1)-most, []int{1, 1, 1, 2, 3}[r.Intn(5)])
}

func drawSmalls(r *rand.Rand, n, most int) []api.Frac {
	var out []api.Frac
	for range n {
		out = append(out, drawSmall(r, most))
	}
	return out
}

// drawRising is numbers that rise strictly.
func drawRising(r *rand.Rand, n, most int) []api.Frac {
	var out []api.Frac
	last := drawSmall(r, most)
	for range n {
		last = frac.Add(last, num(1+r.Intn(3), 1+r.Intn(3)))
		out = append(out, last)
	}
	return out
}

// drawLot is a lottery, often a plain one.
func drawLot(r *rand.Rand, outs int) []api.Frac {
	parts, sum := make([]int, outs), 0
	for range 1 + r.Intn(3) {
		part := r.Intn(3)
		parts[r.Intn(outs)] += part
		sum += part
	}
	if sum == 0 {
		parts[r.Intn(outs)], sum = 1, 1
	}
	var out []api.Frac
	for _, p := range parts {
		out = append(out, num(p, sum))
	}
	return out
}
