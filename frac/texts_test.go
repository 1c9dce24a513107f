package frac_test

import (
	"math/rand"
	"strings"
	"testing"

	"unbent/api"
	"unbent/frac"
)

// P1.4 (texts).
func TestPrint(t *testing.T) {
	r := rand.New(rand.NewSource(8))
	for i := range 500 {
		f := draw(r, 10+5*i)
		if got := frac.Print(f); got != toRat(f).RatString() {
			t.Fatal("printed:", got, "want", toRat(f).RatString())
		}
	}
	for n := range 60 {
		f := fromRat(toRat(api.Frac{Num: []uint32{1}, Den: []uint32{1}}))
		for range n {
			f = frac.Mul(f, make1(10))
		}
		below := frac.Sub(f, make1(1))
		if frac.Print(f) != "1"+strings.Repeat("0", n) || n > 0 && frac.Print(below) != strings.Repeat("9", n) {
			t.Error("powers of ten:", frac.Print(f), frac.Print(below))
		}
	}
	long := ones(api.MaxWords - 1)
	if frac.Print(frac.Neg(long)) != toRat(frac.Neg(long)).RatString() {
		t.Error("a long one")
	}
	for name, f := range wrongs() {
		if frac.Print(f) != "0" {
			t.Error(name, "is printed as", frac.Print(f))
		}
	}
}

func TestParse(t *testing.T) {
	digits := strings.Repeat("9", api.MaxDigits)
	for _, s := range []string{"0", "1", "-1", "10", "4294967295", "4294967296", "18446744073709551616", "1/2", "-3/2", "7/10", "-1/" + digits, digits, digits[1:] + "8/" + digits} {
		f, e := frac.Parse(s)
		if e != api.OK || !frac.Right(f) || toRat(f).RatString() != s || frac.Print(f) != s {
			t.Errorf("%q is read as %v, %d", s, f, e)
		}
	}
	for _, s := range []string{
		"", "-", "/", "-/", "--1", "+1", "-0", "00", "07", "-07", "0/1", "0/2", "-0/2", "1/1", "2/1", "2/4", "6/3", "1/0", "0/0", "1/00", "1/02", "01/2",
		"1/", "/2", "-/2", "1/-2", "1/+2", "-1/-2", "1/2/3", "1//2", " 1", "1 ", "1 /2", "1/ 2", "1\n", "\x001", "1.5", "1e3", "0x1", "a", "1a", "a1", "²", "１", "1/2\xff",
		"1" + digits, "-1" + digits, "1/1" + digits, "1" + digits + "/7", "0" + digits, strings.Repeat("1", 100000), "1/" + strings.Repeat("3", 100000),
	} {
		if f, e := frac.Parse(s); e != api.ErrFrac || f.Neg || f.Num != nil || f.Den != nil {
			t.Errorf("%.50q is read as %v, %d", s, f, e)
		}
	}
}

// All short texts of the letters that a fraction has: Parse takes just those that Print writes.
func TestAllShortTexts(t *testing.T) {
	texts := []string{""}
	written := map[string]bool{}
	for _, p := range []int{0, 1, 2, 3, 4, 5, 10, 11, 12, 13, 20, 21, 22} {
		for _, q := range []int{1, 2, 3, 10, 11, 12, 13, 20, 21, 22} {
			written[frac.Print(ratio(p, q))] = true
			written[frac.Print(ratio(-p, q))] = true
		}
	}
	for range 5 {
		longer := []string{""}
		for _, s := range texts {
			for _, c := range "012-/" {
				longer = append(longer, s+string(c))
			}
		}
		texts = longer
	}
	for _, s := range texts {
		f, e := frac.Parse(s)
		if e == api.OK && frac.Print(f) != s {
			t.Errorf("%q is read as %s", s, frac.Print(f))
		}
		if (e != api.OK) && written[s] {
			t.Errorf("%q is not read", s)
		}
	}
}
