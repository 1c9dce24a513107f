package frac

// gcd is the greatest common divisor of a and b; of 0 and b it is b.
func (a words) gcd(b words) words {
	if a.compare(b) < 0 {
		a, b = b, a
	}
	for !b.short() {
		if l := findLeap(a, b); l.any() {
			a, b = l.apply(a, b)
		} else {
			_, rest := a.div(b)
			a, b = b, rest
		}
	}
	if b.isZero() {
		return a
	}
	_, rest := a.div(b)
	return fromUint(gcdUint(b.value(), rest.value()))
}

func gcdUint(a, b uint64) uint64 {
	for b != 0 {
		a, b = b, a%b
	}
	return a
}

// lcm is the least common multiple of a and b, neither of which is 0.
func (a words) lcm(b words) words {
	if a.compare(b) == 0 {
		return a
	}
	return a.mul(b.over(a.gcd(b)))
}

// share is how a rest of Euclid's algorithm is made of a and b: it is a times ofA less b times ofB, or the other way round.
type share struct{ ofA, ofB uint64 }

// leap is some divisions of Euclid's algorithm at once: the two rests to which they lead. If turned, the first one is b's part less a's, else a's less b's; of the second one it is the other way round.
type leap struct {
	first, second share
	turned        bool
}

// any reports whether the leap leads anywhere.
func (l leap) any() bool { return l.first.ofB != 0 }

// findLeap finds the divisions that the first 64 bits of a are enough to tell: Lehmer's way, with the condition of Collins and Jebelean, under which the bits behind cannot change a quotient. The multiples stay below 2^32. a is not less than b, and b has three words or more.
func findLeap(a, b words) leap {
	zeros := a.leadingZeros()
	x, y := a.head(len(a), zeros), b.head(len(a), zeros)
	l := leap{second: share{ofA: 1}, turned: true}
	third := share{ofB: 1}
	for y >= third.ofB && x-y >= l.second.ofB+third.ofB {
		quotient := x / y
		x, y = y, x%y
		next := share{l.second.ofA + quotient*third.ofA, l.second.ofB + quotient*third.ofB}
		l = leap{l.second, third, !l.turned}
		third = next
	}
	return l
}

// head is 64 bits of a: those behind the first zeros of the word ahead of a place, and on.
func (a words) head(place, zeros int) uint64 {
	return a.at(place-1)<<(wordBits+zeros) | a.at(place-2)<<zeros | a.at(place-3)>>(wordBits-zeros)
}

// apply is the two rests of a and b to which the leap leads.
func (l leap) apply(a, b words) (first, second words) {
	if l.turned {
		return b.timesLess(l.first.ofB, a, l.first.ofA), a.timesLess(l.second.ofA, b, l.second.ofB)
	}
	return a.timesLess(l.first.ofA, b, l.first.ofB), b.timesLess(l.second.ofB, a, l.second.ofA)
}

// timesLess is p * a - q * b, which is neither below 0 nor longer than the longer one of a and b; p and q are below 2^32.
func (a words) timesLess(p uint64, b words, q uint64) words {
	out := make(words, max(len(a), len(b)))
	var more, less, borrow uint64
	for i := range out {
		more += p * a.at(i)
		less += q * b.at(i)
		d := more&(1<<wordBits-1) - less&(1<<wordBits-1) - borrow
		out[i] = uint32(d)
		borrow = d >> 63
		more >>= wordBits
		less >>= wordBits
	}
	return out.trim()
}
