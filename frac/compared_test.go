package frac_test

import (
	"math/rand"
	"testing"

	"unbent/api"
	"unbent/frac"
)

// P1.3 (compared).
func TestCmp(t *testing.T) {
	r := rand.New(rand.NewSource(7))
	for i := range 3000 {
		a, b := draw(r, 20+i%200), draw(r, 20+i%200)
		if i%7 == 0 {
			b = frac.Add(a, ratio(i%3-1, 1<<40))
		}
		if frac.Cmp(a, b) != toRat(a).Cmp(toRat(b)) || frac.Cmp(b, a) != -frac.Cmp(a, b) || frac.Cmp(a, a) != 0 {
			t.Fatal("to each other:", frac.Print(a), frac.Print(b), frac.Cmp(a, b))
		}
		if frac.Sign(a) != toRat(a).Sign() {
			t.Fatal("sign:", frac.Print(a))
		}
	}
	long := ones(api.MaxWords - 1)
	inverse, _ := frac.Div(make1(1), long)
	if frac.Cmp(long, frac.Sub(long, make1(1))) != 1 || frac.Cmp(frac.Neg(long), inverse) != -1 || frac.Cmp(inverse, make1(0)) != 1 || frac.Cmp(inverse, long) != -1 {
		t.Error("long ones")
	}
}

func TestCmpOfWrong(t *testing.T) {
	for name, f := range wrongs() {
		if frac.Sign(f) != 0 || frac.Cmp(f, make1(0)) != 0 || frac.Cmp(f, ratio(1, 9)) != -1 || frac.Cmp(ratio(-1, 9), f) != -1 {
			t.Error(name, "is not 0")
		}
	}
}

// P1.3 (compared): the first place of several.
func TestPlaces(t *testing.T) {
	wrong := api.Frac{Num: []uint32{9}}
	for _, c := range []struct {
		list        []api.Frac
		least, most int
	}{
		{nil, -1, -1},
		{[]api.Frac{}, -1, -1},
		{wholes(5), 0, 0},
		{wholes(2, 2, 2), 0, 0},
		{wholes(3, 1, 1), 1, 0},
		{wholes(-1, 4, -1, 4), 0, 1},
		{wholes(-3, -2, -5), 2, 1},
		{[]api.Frac{ratio(1, 2), ratio(1, 3), ratio(2, 3), ratio(4, 6)}, 1, 2},
		{append(wholes(1, -1), wrong), 1, 0},
		{append(wholes(1, 2), wrong, make1(0)), 2, 1},
		{append([]api.Frac{wrong}, wholes(-1, 0)...), 1, 0},
	} {
		if least, most := frac.Least(c.list), frac.Most(c.list); least != c.least || most != c.most {
			t.Errorf("%v: least at %d, greatest at %d", c.list, least, most)
		}
	}
}
