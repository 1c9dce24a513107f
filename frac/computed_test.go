package frac_test

import (
	"math/big"
	"math/rand"
	"testing"

	"unbent/api"
	"unbent/frac"
)

// checkComputed holds all that is computed of two fractions against math/big.
func checkComputed(t *testing.T, a, b api.Frac) {
	t.Helper()
	x, y := toRat(a), toRat(b)
	want(t, "the sum", frac.Add(a, b), new(big.Rat).Add(x, y))
	want(t, "the difference", frac.Sub(a, b), new(big.Rat).Sub(x, y))
	want(t, "the product", frac.Mul(a, b), new(big.Rat).Mul(x, y))
	want(t, "the opposite", frac.Neg(a), new(big.Rat).Neg(x))
	want(t, "the floor", frac.Floor(a), new(big.Rat).SetInt(new(big.Int).Div(x.Num(), x.Denom())))
	q, e := frac.Div(a, b)
	if y.Sign() == 0 {
		if e != api.ErrZero || q.Den != nil {
			t.Fatal("a division by 0:", q, e)
		}
		return
	}
	if e != api.OK {
		t.Fatal("a division:", e)
	}
	want(t, "the quotient", q, new(big.Rat).Quo(x, y))
}

// P1.2 (computed).
func TestComputed(t *testing.T) {
	r := rand.New(rand.NewSource(3))
	for range 5000 {
		checkComputed(t, draw(r, 40), draw(r, 40))
	}
	for range 300 {
		checkComputed(t, draw(r, 2000), draw(r, 2000))
	}
	for range 4 {
		checkComputed(t, draw(r, 40000), draw(r, 40000))
	}
	small := []api.Frac{}
	for p := -6; p <= 6; p++ {
		for q := 1; q <= 6; q++ {
			small = append(small, ratio(p, q))
		}
	}
	for _, a := range small {
		for _, b := range small {
			checkComputed(t, a, b)
		}
	}
}

// What is not right stands for 0 in every function.
func TestComputedOfWrong(t *testing.T) {
	a := ratio(-7, 3)
	for name, f := range wrongs() {
		q, e := frac.Div(f, a)
		_, zero := frac.Div(a, f)
		if e != api.OK || zero != api.ErrZero {
			t.Error(name, "divided:", e, zero)
		}
		for i, got := range []api.Frac{frac.Add(f, f), frac.Mul(a, f), frac.Mul(f, a), frac.Neg(f), frac.Floor(f), q, frac.Sum([]api.Frac{f}), frac.Dot([]api.Frac{f}, []api.Frac{a})} {
			if !same(got, make1(0)) {
				t.Error(name, "is not 0:", i, got)
			}
		}
		if !same(frac.Add(a, f), a) || !same(frac.Sub(a, f), a) || !same(frac.Sub(f, a), ratio(7, 3)) {
			t.Error(name, "is not 0 in a sum")
		}
	}
}

// A result of MaxWords words is told, a longer one is 0.
func TestLength(t *testing.T) {
	most := ones(api.MaxWords - 1)
	half := ones(api.MaxWords/2 - 1)
	other := power(api.MaxWords/2 - 1)
	for _, c := range [][2]api.Frac{
		{most, make1(1)}, {most, make1(-1)}, {most, make1(2)}, {most, most}, {most, ratio(1, 3)},
		{half, other}, {frac.Mul(half, half), make1(3)}, {frac.Neg(most), make1(-1)}, {make1(1), most},
		{half, frac.Add(other, make1(1))}, {ratio(1, 2), power(api.MaxWords - 2)},
	} {
		checkComputed(t, c[0], c[1])
	}
	if !same(frac.Add(most, make1(1)), make1(0)) || !same(frac.Add(frac.Sub(most, make1(1)), make1(1)), most) {
		t.Error("a sum at the limit")
	}
	inverse, _ := frac.Div(make1(1), most)
	if !same(inverse, api.Frac{Num: []uint32{1}, Den: most.Num}) || !same(frac.Mul(inverse, most), make1(1)) {
		t.Error("an inverse at the limit")
	}
}

// P1.2 (computed): sums of lists, where too long ones on the way do not matter.
func TestSum(t *testing.T) {
	most := ones(api.MaxWords - 1)
	if !same(frac.Sum(nil), make1(0)) || !same(frac.Sum([]api.Frac{}), make1(0)) {
		t.Error("the sum of none")
	}
	if got := frac.Sum([]api.Frac{ratio(1, 2), ratio(1, 3), ratio(1, 6)}); frac.Print(got) != "1" {
		t.Error("1/2 + 1/3 + 1/6 is", frac.Print(got))
	}
	if got := frac.Sum([]api.Frac{most, most, frac.Neg(most)}); !same(got, most) {
		t.Error("a sum that is too long on the way")
	}
	if got := frac.Sum([]api.Frac{most, most}); !same(got, make1(0)) {
		t.Error("a sum that is too long:", len(got.Num))
	}
	r := rand.New(rand.NewSource(4))
	for n := range 60 {
		list, total := []api.Frac{}, new(big.Rat)
		for range n {
			list = append(list, draw(r, 100))
			total.Add(total, toRat(list[len(list)-1]))
		}
		want(t, "a sum", frac.Sum(list), total)
	}
}

func TestSumOfLongDenominators(t *testing.T) {
	r := rand.New(rand.NewSource(5))
	list := []api.Frac{}
	for range 6 {
		f := draw(r, 60000)
		list = append(list, f, frac.Neg(f))
	}
	list = append(list, ratio(5, 7))
	r.Shuffle(len(list), func(i, j int) { list[i], list[j] = list[j], list[i] })
	if got := frac.Sum(list); !same(got, ratio(5, 7)) {
		t.Error("all but 5/7 cancels, left is", frac.Print(got))
	}
}

// P1.2 (computed): products go as far as both lists.
func TestDot(t *testing.T) {
	most := ones(api.MaxWords - 1)
	if got := frac.Dot([]api.Frac{most, most, make1(1)}, []api.Frac{most, frac.Neg(most), most}); !same(got, most) {
		t.Error("products that are too long on the way")
	}
	r := rand.New(rand.NewSource(6))
	for n := range 12 {
		for m := range 12 {
			var a, b []api.Frac
			total := new(big.Rat)
			for range n {
				a = append(a, draw(r, 80))
			}
			for i := range m {
				b = append(b, draw(r, 80))
				if i < n {
					total.Add(total, new(big.Rat).Mul(toRat(a[i]), toRat(b[i])))
				}
			}
			want(t, "a sum of products", frac.Dot(a, b), total)
		}
	}
}
