package frac_test

import (
	"math/rand"
	"testing"

	"unbent/api"
	"unbent/frac"
)

// P1.7 (consequences): fractions are a field with an order.
func TestField(t *testing.T) {
	r := rand.New(rand.NewSource(11))
	for i := range 400 {
		bits := 5 + i*i/50
		a, b, c := draw(r, bits), draw(r, bits), draw(r, bits)
		checkSame(t, "a+b", frac.Add(a, b), frac.Add(b, a))
		checkSame(t, "ab", frac.Mul(a, b), frac.Mul(b, a))
		checkSame(t, "a+b+c", frac.Add(frac.Add(a, b), c), frac.Add(a, frac.Add(b, c)))
		checkSame(t, "abc", frac.Mul(frac.Mul(a, b), c), frac.Mul(a, frac.Mul(b, c)))
		checkSame(t, "a(b+c)", frac.Mul(a, frac.Add(b, c)), frac.Add(frac.Mul(a, b), frac.Mul(a, c)))
		checkSame(t, "a+b-b", frac.Sub(frac.Add(a, b), b), a)
		checkSame(t, "a-b", frac.Sub(a, b), frac.Add(a, frac.Neg(b)))
		checkSame(t, "the list", frac.Sum([]api.Frac{a, b, c}), frac.Add(c, frac.Add(b, a)))
		checkSame(t, "the products", frac.Dot([]api.Frac{a, b}, []api.Frac{b, c}), frac.Mul(b, frac.Add(a, c)))
		if q, e := frac.Div(frac.Mul(a, b), b); frac.Sign(b) != 0 {
			checkSame(t, "ab/b", q, a)
		} else if e != api.ErrZero {
			t.Fatal("a division by 0:", e)
		}
		checkOrder(t, a, b, c)
	}
}

func checkSame(t *testing.T, what string, a, b api.Frac) {
	t.Helper()
	if !same(a, b) {
		t.Fatalf("%s: %s and %s", what, frac.Print(a), frac.Print(b))
	}
}

func checkOrder(t *testing.T, a, b, c api.Frac) {
	t.Helper()
	before := frac.Cmp(a, b)
	if frac.Cmp(frac.Add(a, c), frac.Add(b, c)) != before {
		t.Fatal("the order changes with what is added")
	}
	if frac.Cmp(frac.Mul(a, c), frac.Mul(b, c)) != before*frac.Sign(c) {
		t.Fatal("the order changes with a factor")
	}
	if frac.Sign(frac.Sub(a, b)) != before {
		t.Fatal("the difference has another sign")
	}
	floor := frac.Floor(a)
	if frac.Cmp(floor, a) > 0 || frac.Cmp(frac.Add(floor, make1(1)), a) <= 0 {
		t.Fatal("the floor of", frac.Print(a), "is", frac.Print(floor))
	}
}

// P1.7: Parse reads what Print writes.
func TestThereAndBack(t *testing.T) {
	r := rand.New(rand.NewSource(12))
	for range 2000 {
		a := draw(r, 128) // less than 10^40
		f, e := frac.Parse(frac.Print(a))
		if e != api.OK {
			t.Fatal(frac.Print(a), e)
		}
		checkSame(t, "there and back", f, a)
	}
}
