// Package frac is layer 1: exact fractions of whole numbers of any length, and systems of equations, each with a solution or a proof that there is none.
package frac

import "unbent/api"

// Make is p / q in lowest terms; ErrZero if q is 0.
func Make(p, q int) (api.Frac, api.Errno) {
	if q == 0 {
		return api.Frac{}, api.ErrZero
	}
	num, den := fromInt(p), fromInt(q)
	return tell(lowest(signed(num.words, num.below != den.below), den.words)), api.OK
}

// Right reports whether f is a right fraction: in lowest terms, without zero words last, not too long.
func Right(f api.Frac) bool {
	num, den := words(f.Num), words(f.Den)
	if len(num) > api.MaxWords || len(den) > api.MaxWords-len(num) {
		return false
	}
	if !num.trimmed() || !den.trimmed() || den.isZero() || f.Neg && num.isZero() {
		return false
	}
	return num.gcd(den).isOne()
}

// Fix is f if it is right, else 0.
func Fix(f api.Frac) api.Frac { return tell(read(f)) }

// Add is a + b.
func Add(a, b api.Frac) api.Frac { return tell(read(a).plus(read(b))) }

// Sub is a - b.
func Sub(a, b api.Frac) api.Frac { return tell(read(a).plus(read(b).neg())) }

// Mul is a * b.
func Mul(a, b api.Frac) api.Frac { return tell(read(a).times(read(b))) }

// Div is a / b; ErrZero if b is 0.
func Div(a, b api.Frac) (api.Frac, api.Errno) {
	by := read(b)
	if by.num.isZero() {
		return api.Frac{}, api.ErrZero
	}
	return tell(read(a).times(by.turned())), api.OK
}

// Neg is -a.
func Neg(a api.Frac) api.Frac { return tell(read(a).neg()) }

// Cmp is -1, 0 or 1 as a is less than, equal to or greater than b.
func Cmp(a, b api.Frac) int { return read(a).compare(read(b)) }

// Sign is -1, 0 or 1 as a is less than, equal to or greater than 0.
func Sign(a api.Frac) int { return read(a).num.sign() }

// Floor is the greatest whole number that is not above a.
func Floor(a api.Frac) api.Frac { return tell(read(a).floor()) }

// Sum is the sum of a list.
func Sum(l []api.Frac) api.Frac {
	return tell(total(0, len(l), func(i int) ratio { return read(l[i]) }))
}

// Dot is the sum of the products of what stands at the same places, as far as both lists go.
func Dot(a, b []api.Frac) api.Frac {
	product := func(i int) ratio { return read(a[i]).times(read(b[i])) }
	return tell(total(0, min(len(a), len(b)), product))
}

// Least is the place of the first least one; -1 of none.
func Least(l []api.Frac) int { return first(l, -1) }

// Most is the place of the first greatest one; -1 of none.
func Most(l []api.Frac) int { return first(l, 1) }

// first is the place of the first one that no other is beyond, on the side of that sign; -1 of none.
func first(l []api.Frac, side int) int {
	at, best := -1, zero()
	for i, f := range l {
		if r := read(f); at < 0 || r.compare(best) == side {
			at, best = i, r
		}
	}
	return at
}
