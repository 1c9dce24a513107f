package plane

import (
	"unbent/api"
	"unbent/frac"
)

// gcd is the greatest common divisor of a and b; of 0 and b it is b. Package frac tells it, which brings a / b to lowest terms, once they are short enough for that.
func (a limbs) gcd(b limbs) limbs {
	for len(b) > 0 && 2*(len(a)+len(b)) > api.MaxWords {
		_, rest := a.div(b)
		a, b = b, rest
	}
	if len(a) == 0 || len(b) == 0 {
		return a.add(b)
	}
	lowest, _ := frac.Div(a.fraction(), b.fraction())
	divisor, _ := a.div(ofWords(lowest.Num))
	return divisor
}

// fraction is a as a fraction; a is not 0, and not longer than a fraction may be.
func (a limbs) fraction() api.Frac {
	f := api.Frac{Den: []uint32{1}}
	for _, l := range a {
		f.Num = append(f.Num, uint32(l), uint32(l>>32))
	}
	if n := len(f.Num); f.Num[n-1] == 0 {
		f.Num = f.Num[:n-1]
	}
	return f
}

// ofWords is a number of words of 32 bits.
func ofWords(words []uint32) limbs {
	out := make(limbs, (len(words)+1)/2)
	for i, w := range words {
		out[i/2] |= uint64(w) << (32 * (i % 2))
	}
	return out.trim()
}

func gcdUint(a, b uint64) uint64 {
	for b != 0 {
		a, b = b, a%b
	}
	return a
}
