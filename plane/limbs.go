package plane

import (
	"cmp"
	"math/bits"
	"slices"
)

// limbs is the size of a whole number: the sum of its limbs, each times 2^64 to the power of its place. No zero limb stands last. Limbs are never changed once a method has returned them, so that numbers may share them.
//
// Package frac brings each result to lowest terms and cuts what is longer than MaxWords. A table needs neither on its way, and is many times faster without; so it has whole numbers of its own.
type limbs []uint64

const limbBits = 64

// fromUint is n as limbs.
func fromUint(n uint64) limbs { return limbs{n}.trim() }

// trim drops the zero limbs that stand last.
func (a limbs) trim() limbs {
	n := len(a)
	for n > 0 && a[n-1] == 0 {
		n--
	}
	return a[:n]
}

// at is the limb at a place, 0 where there is none.
func (a limbs) at(place int) uint64 {
	if place < len(a) {
		return a[place]
	}
	return 0
}

// compare is -1, 0 or 1 as a is less than, equal to or greater than b.
func (a limbs) compare(b limbs) int {
	if len(a) != len(b) {
		return cmp.Compare(len(a), len(b))
	}
	for i := len(a) - 1; i >= 0; i-- {
		if a[i] != b[i] {
			return cmp.Compare(a[i], b[i])
		}
	}
	return 0
}

// add is a + b.
func (a limbs) add(b limbs) limbs {
	if len(a) < len(b) {
		a, b = b, a
	}
	out := make(limbs, len(a)+1)
	copy(out, a)
	out.increase(b)
	return out.trim()
}

// increase adds b to a in a's own memory; what does not fit there is lost.
func (a limbs) increase(b limbs) {
	var carry uint64
	for i := range a {
		a[i], carry = bits.Add64(a[i], b.at(i), carry)
	}
}

// sub is a - b, where b is not above a.
func (a limbs) sub(b limbs) limbs {
	out := make(limbs, len(a))
	var borrow uint64
	for i := range a {
		out[i], borrow = bits.Sub64(a[i], b.at(i), borrow)
	}
	return out.trim()
}

// mul is a * b.
func (a limbs) mul(b limbs) limbs {
	out := make(limbs, len(a)+len(b))
	for i, factor := range a {
		out[i+len(b)] = out[i:i+len(b)].addTimes(b, factor)
	}
	return out.trim()
}

// addTimes adds b times a factor to a in a's own memory, which is as long as b, and tells what goes beyond it.
func (a limbs) addTimes(b limbs, factor uint64) uint64 {
	var beyond uint64
	for i, l := range b {
		high, low := bits.Mul64(l, factor)
		low, carry := bits.Add64(low, beyond, 0)
		high += carry
		a[i], carry = bits.Add64(low, a[i], 0)
		beyond = high + carry
	}
	return beyond
}

// div is the quotient of a and b, and the rest; b is not 0.
func (a limbs) div(b limbs) (quotient, rest limbs) {
	switch {
	case a.compare(b) < 0:
		return nil, a
	case len(b) == 1:
		quotient = slices.Clone(a)
		left := quotient.divLimb(b[0])
		return quotient.trim(), fromUint(left)
	}
	return a.divLong(b)
}

// divLimb divides a by a limb in a's own memory and tells the rest.
func (a limbs) divLimb(by uint64) uint64 {
	var rest uint64
	for i := len(a) - 1; i >= 0; i-- {
		a[i], rest = bits.Div64(rest, a[i], by)
	}
	return rest
}

// divLong divides by a number of two limbs or more, limb by limb as on paper. Both are shifted first, until b's first bit is set: only then are the guesses good ones.
func (a limbs) divLong(b limbs) (quotient, rest limbs) {
	n := len(b)
	zeros := bits.LeadingZeros64(b[n-1])
	left, by := a.shiftLeft(zeros), b.shiftLeft(zeros).trim()
	quotient = make(limbs, len(left)-n)
	for i := len(quotient) - 1; i >= 0; i-- {
		part := left[i : i+n+1]
		guess := part.guess(by)
		if part.takeTimes(by, guess) {
			guess--
			part.increase(by)
		}
		quotient[i] = guess
	}
	return quotient.trim(), left[:n].shiftRight(zeros)
}

// shiftLeft is a times 2^by, with a limb more than a has; by is below 64.
func (a limbs) shiftLeft(by int) limbs {
	out := make(limbs, len(a)+1)
	for i := range out {
		out[i] = a.at(i) << by
		if i > 0 {
			out[i] |= a[i-1] >> (limbBits - by)
		}
	}
	return out
}

// shiftRight is a / 2^by without its rest; by is below 64.
func (a limbs) shiftRight(by int) limbs {
	out := make(limbs, len(a))
	for i := range out {
		out[i] = a[i]>>by | a.at(i+1)<<(limbBits-by)
	}
	return out.trim()
}

// guess is the first limbs' quotient: that of a and b, or 1 more. a has a limb more than b, and is below b times 2^64.
func (a limbs) guess(b limbs) uint64 {
	n := len(b)
	guess, rest := ^uint64(0), a[n-1]+b[n-1]
	sure := rest < b[n-1] // the rest has more than 64 bits: the guess cannot be too high
	if a[n] < b[n-1] {
		guess, rest = bits.Div64(a[n], a[n-1], b[n-1])
		sure = false
	}
	high, low := bits.Mul64(guess, b[n-2])
	for !sure && (high > rest || high == rest && low > a[n-2]) {
		var borrow uint64
		guess--
		low, borrow = bits.Sub64(low, b[n-2], 0)
		high -= borrow
		rest += b[n-1]
		sure = rest < b[n-1]
	}
	return guess
}

// takeTimes takes b times a factor from a in a's own memory, which has a limb more than b, and reports whether that was too much.
func (a limbs) takeTimes(b limbs, factor uint64) bool {
	var beyond, borrow uint64
	for i, l := range b {
		high, low := bits.Mul64(l, factor)
		low, carry := bits.Add64(low, beyond, 0)
		beyond = high + carry
		a[i], borrow = bits.Sub64(a[i], low, borrow)
	}
	a[len(b)], borrow = bits.Sub64(a[len(b)], beyond, borrow)
	return borrow != 0
}
