package frac_test

import (
	"math"
	"math/big"
	"testing"

	"unbent/api"
	"unbent/frac"
)

// P1.1 (made).
func TestMake(t *testing.T) {
	edges := []int{0, 1, -1, 2, -4, 6, 9, 1 << 31, 1<<32 - 1, 1 << 32, -1 << 32, 1 << 62, math.MaxInt, math.MinInt, math.MinInt + 1}
	for _, p := range edges {
		for _, q := range edges {
			f, e := frac.Make(p, q)
			if q == 0 {
				if e != api.ErrZero || f.Neg || f.Num != nil || f.Den != nil {
					t.Errorf("Make(%d, 0) is %v, %d", p, f, e)
				}
				continue
			}
			if e != api.OK {
				t.Errorf("Make(%d, %d): %d", p, q, e)
			}
			want(t, "a made one", f, new(big.Rat).SetFrac(big.NewInt(int64(p)), big.NewInt(int64(q))))
		}
	}
}

func TestZeroMade(t *testing.T) {
	if f := make1(0); f.Neg || len(f.Num) != 0 || len(f.Den) != 1 || f.Den[0] != 1 {
		t.Error("0 is", f)
	}
}

// P1.1 (made): what is right, and what Fix makes of what is not.
func TestWrong(t *testing.T) {
	for name, f := range wrongs() {
		if frac.Right(f) {
			t.Error(name, "is right")
		}
		if !same(frac.Fix(f), make1(0)) {
			t.Error(name, "is fixed as", frac.Fix(f))
		}
	}
}

func TestRight(t *testing.T) {
	for name, f := range map[string]api.Frac{
		"0":                {Den: []uint32{1}},
		"0 of an empty":    {Num: []uint32{}, Den: []uint32{1}},
		"-3/2":             {Neg: true, Num: []uint32{3}, Den: []uint32{2}},
		"1/2^32":           {Num: []uint32{1}, Den: []uint32{0, 1}},
		"most words":       ones(api.MaxWords - 1),
		"most, as a ratio": {Num: ones(api.MaxWords / 2).Num, Den: power(api.MaxWords/2 - 1).Num},
		"long denominator": {Neg: true, Num: []uint32{1}, Den: ones(api.MaxWords - 1).Num},
	} {
		if !frac.Right(f) || !same(frac.Fix(f), f) {
			t.Error(name, "is not right")
		}
	}
}
