package frac

import "unbent/api"

// ratio is a fraction in lowest terms, as long as it may be: only what is told is held to MaxWords.
type ratio struct {
	num number
	den words
}

func zero() ratio { return ratio{den: one()} }

// lowest is num / den; den is not 0.
func lowest(num number, den words) ratio {
	g := num.gcd(den)
	return ratio{num.shrink(g), den.over(g)}
}

// read is what a fraction stands for. It shares f's memory, which nothing here changes.
func read(f api.Frac) ratio {
	if !Right(f) {
		return zero()
	}
	return ratio{number{words(f.Num), f.Neg}, words(f.Den)}
}

func readAll(l []api.Frac) []ratio {
	out := make([]ratio, len(l))
	for i, f := range l {
		out[i] = read(f)
	}
	return out
}

// fits reports whether r is short enough to be told.
func (r ratio) fits() bool { return len(r.num.words)+len(r.den) <= api.MaxWords }

// tell is r in memory of its own; 0 if it is too long.
func tell(r ratio) api.Frac {
	if !r.fits() {
		r = zero()
	}
	return api.Frac{Neg: r.num.below, Num: r.num.clone(), Den: r.den.clone()}
}

func tellAll(l []ratio) []api.Frac {
	out := make([]api.Frac, len(l))
	for i, r := range l {
		out[i] = tell(r)
	}
	return out
}

func (r ratio) neg() ratio { return ratio{r.num.neg(), r.den} }

// plus looks for common divisors in the denominators' own one alone: no other can be left in the sum.
func (r ratio) plus(s ratio) ratio {
	g := r.den.gcd(s.den)
	rest := r.den.over(g)
	num := r.num.scale(s.den.over(g)).plus(s.num.scale(rest))
	h := num.gcd(g)
	return ratio{num.shrink(h), rest.mul(s.den.over(h))}
}

func (r ratio) times(s ratio) ratio {
	g, h := r.num.gcd(s.den), s.num.gcd(r.den)
	return ratio{r.num.shrink(g).times(s.num.shrink(h)), r.den.over(h).mul(s.den.over(g))}
}

// turned is 1 / r; r is not 0.
func (r ratio) turned() ratio {
	return ratio{number{r.den, r.num.below}, r.num.words}
}

func (r ratio) compare(s ratio) int {
	if a, b := r.num.sign(), s.num.sign(); a != b {
		return order(a, b)
	}
	sizes := r.num.mul(s.den).compare(s.num.mul(r.den))
	return sizes * r.num.sign()
}

func (r ratio) floor() ratio {
	whole, rest := r.num.div(r.den)
	if r.num.below && !rest.isZero() {
		whole = whole.add(one())
	}
	return ratio{signed(whole, r.num.below), one()}
}

// total is the sum of the terms from one place on up to below another. It adds halves, so that what is long is added but a few times.
func total(from, to int, term func(place int) ratio) ratio {
	switch to - from {
	case 0:
		return zero()
	case 1:
		return term(from)
	}
	middle := from + (to-from)/2
	return total(from, middle, term).plus(total(middle, to, term))
}
