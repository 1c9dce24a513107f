package frac_test

import (
	"math/rand"
	"testing"

	"unbent/api"
	"unbent/frac"
)

// drawAny is any value at all, right or not.
func drawAny(r *rand.Rand) api.Frac {
	list := func() []uint32 {
		var out []uint32
		for range r.Intn(5) {
			out = append(out, uint32(r.Intn(4))<<(r.Intn(2)*30))
		}
		return out
	}
	return api.Frac{Neg: r.Intn(2) == 0, Num: list(), Den: list()}
}

// P1: no function panics, and all that is told is right, whatever it is handed.
func TestAnything(t *testing.T) {
	r := rand.New(rand.NewSource(13))
	for range 20000 {
		a, b, c := drawAny(r), drawAny(r), drawAny(r)
		l := []api.Frac{a, b, c}[:r.Intn(4)]
		told := []api.Frac{frac.Fix(a), frac.Add(a, b), frac.Sub(a, b), frac.Mul(a, b), frac.Neg(a), frac.Floor(a), frac.Sum(l), frac.Dot(l, []api.Frac{c, b})}
		if q, e := frac.Div(a, b); e == api.OK {
			told = append(told, q)
		}
		x, y, _, e := frac.Linear([][]api.Frac{{a, b}, {b, c}}, []api.Frac{c, a})
		told = append(append(told, x...), y...)
		if e != api.OK || frac.Cmp(a, b) != -frac.Cmp(b, a) || frac.Least(l) >= len(l) || frac.Most(l) >= len(l) {
			t.Fatal("of", a, b, c)
		}
		for i, f := range told {
			if !frac.Right(f) {
				t.Fatal(i, "is not right:", f, "of", a, b, c)
			}
		}
	}
}

// spoil overwrites all the memory that a fraction holds.
func spoil(f api.Frac) {
	for _, words := range [][]uint32{f.Num, f.Den} {
		words = words[:cap(words)]
		for i := range words {
			words[i] = 77
		}
	}
}

func clone(f api.Frac) api.Frac {
	return api.Frac{Neg: f.Neg, Num: append([]uint32(nil), f.Num...), Den: append([]uint32(nil), f.Den...)}
}

// No result shares memory with an argument or with another part of the result, and no argument is changed.
func TestMemory(t *testing.T) {
	r := rand.New(rand.NewSource(14))
	for i := range 400 {
		a, b := draw(r, 10+i), draw(r, 10+i)
		switch i % 4 {
		case 1:
			a = make1(0)
		case 2:
			b = make1(1)
		case 3:
			b = clone(a)
		}
		keptA, keptB := clone(a), clone(b)
		rows, right := matrix([]api.Frac{a, b}, []api.Frac{make1(0), make1(1)}), []api.Frac{a, b}
		q, _ := frac.Div(a, b)
		x, y, _, _ := frac.Linear(rows, right)
		told := []api.Frac{frac.Fix(a), frac.Add(a, b), frac.Sub(a, b), frac.Mul(a, b), q, frac.Neg(a), frac.Floor(a), frac.Sum([]api.Frac{a}), frac.Dot([]api.Frac{a}, []api.Frac{b})}
		told = append(append(told, x...), y...)
		for j := range told {
			kept := make([]api.Frac, len(told))
			for k := range told {
				kept[k] = clone(told[k])
			}
			spoil(told[j])
			for k := range told {
				if k != j && !same(told[k], kept[k]) {
					t.Fatal("results share memory:", j, k)
				}
			}
			if len(told[j].Num) > 0 && len(told[j].Den) > 0 {
				told[j].Num[0] = 5
				if told[j].Den[0] != 77 {
					t.Fatal("the parts of a result share memory:", j)
				}
			}
		}
		if !same(a, keptA) || !same(b, keptB) || !same(right[0], keptA) || !same(rows[0][1], keptB) {
			t.Fatal("an argument is changed, or shares memory with a result")
		}
	}
}
