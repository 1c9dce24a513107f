package frac_test

import (
	"math/big"
	"math/rand"
	"testing"

	"unbent/api"
	"unbent/frac"
)

// make1 is a whole number.
func make1(n int) api.Frac { return ratio(n, 1) }

func ratio(p, q int) api.Frac {
	f, e := frac.Make(p, q)
	if e != api.OK {
		panic("no fraction")
	}
	return f
}

func wholes(l ...int) []api.Frac {
	var out []api.Frac
	for _, n := range l {
		out = append(out, make1(n))
	}
	return out
}

func matrix(l ...[]api.Frac) [][]api.Frac { return l }

// toRat is what a right fraction is, computed by math/big alone.
func toRat(f api.Frac) *big.Rat {
	out := new(big.Rat).SetFrac(toInt(f.Num), toInt(f.Den))
	if f.Neg {
		out.Neg(out)
	}
	return out
}

func toInt(words []uint32) *big.Int {
	out := new(big.Int)
	for i := len(words) - 1; i >= 0; i-- {
		out.Lsh(out, 32)
		out.Or(out, big.NewInt(int64(words[i])))
	}
	return out
}

// fromRat is r as a fraction; 0 if it is too long.
func fromRat(r *big.Rat) api.Frac {
	num, den := fromInt(r.Num()), fromInt(r.Denom())
	if len(num)+len(den) > api.MaxWords {
		return make1(0)
	}
	return api.Frac{Neg: r.Sign() < 0, Num: num, Den: den}
}

func fromInt(n *big.Int) []uint32 {
	var out []uint32
	for left := new(big.Int).Abs(n); left.Sign() > 0; left.Rsh(left, 32) {
		out = append(out, uint32(new(big.Int).And(left, big.NewInt(1<<32-1)).Uint64()))
	}
	return out
}

// same reports whether two fractions are the same to the letter.
func same(a, b api.Frac) bool {
	return a.Neg == b.Neg && sameWords(a.Num, b.Num) && sameWords(a.Den, b.Den)
}

func sameWords(a, b []uint32) bool {
	if len(a) != len(b) {
		return false
	}
	for i := range a {
		if a[i] != b[i] {
			return false
		}
	}
	return true
}

// want holds a result against what math/big says of it.
func want(t *testing.T, what string, got api.Frac, r *big.Rat) {
	t.Helper()
	if !frac.Right(got) || !same(got, fromRat(r)) {
		t.Fatalf("%s is %s, want %s", what, frac.Print(got), r.RatString())
	}
}

// drawInt is a whole number of up to so many bits, often one with many equal bits.
func drawInt(r *rand.Rand, bits int) *big.Int {
	n := new(big.Int).Rand(r, new(big.Int).Lsh(big.NewInt(1), uint(1+r.Intn(bits))))
	if r.Intn(5) == 0 {
		n.Lsh(big.NewInt(1), uint(r.Intn(bits)))
		n.Sub(n, big.NewInt(int64(r.Intn(2))))
	}
	return n
}

// draw is a fraction whose two numbers have up to so many bits.
func draw(r *rand.Rand, bits int) api.Frac {
	num, den := drawInt(r, bits), drawInt(r, bits)
	if den.Sign() == 0 || r.Intn(4) == 0 {
		den.SetInt64(1)
	}
	if r.Intn(2) == 0 {
		num.Neg(num)
	}
	return fromRat(new(big.Rat).SetFrac(num, den))
}

// ones is the number with so many words, all of whose bits are set.
func ones(words int) api.Frac {
	f := api.Frac{Num: make([]uint32, words), Den: []uint32{1}}
	for i := range f.Num {
		f.Num[i] = 1<<32 - 1
	}
	return f
}

// power is 2^32 to the power of so many words.
func power(words int) api.Frac {
	return api.Frac{Num: append(make([]uint32, words), 1), Den: []uint32{1}}
}

// wrongs are values that are no right fractions.
func wrongs() map[string]api.Frac {
	return map[string]api.Frac{
		"empty":                   {},
		"no denominator":          {Num: []uint32{1}},
		"denominator of zeros":    {Num: []uint32{1}, Den: []uint32{0}},
		"numerator of zeros":      {Num: []uint32{0}, Den: []uint32{1}},
		"zero ends numerator":     {Num: []uint32{3, 0}, Den: []uint32{2}},
		"zero ends denominator":   {Num: []uint32{3}, Den: []uint32{2, 0}},
		"below zero, but zero":    {Neg: true, Den: []uint32{1}},
		"zero over 2":             {Den: []uint32{2}},
		"zero over 2^32":          {Den: []uint32{0, 1}},
		"2/4":                     {Num: []uint32{2}, Den: []uint32{4}},
		"equal ones":              {Neg: true, Num: []uint32{7, 7, 7}, Den: []uint32{7, 7, 7}},
		"common word":             {Num: []uint32{0, 1}, Den: []uint32{0, 3}},
		"common long divisor":     {Num: frac.Mul(ones(40), make1(7)).Num, Den: frac.Mul(ones(40), make1(9)).Num},
		"whole of too many words": {Num: ones(api.MaxWords).Num, Den: []uint32{1}},
		"too many words":          {Num: ones(api.MaxWords / 2).Num, Den: power(api.MaxWords / 2).Num},
		"long denominator":        {Den: ones(api.MaxWords + 1).Num},
	}
}
