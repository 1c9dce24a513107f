package frac

// div is the quotient of a and b, and the rest; b is not 0.
func (a words) div(b words) (quotient, rest words) {
	switch {
	case b.isOne():
		return a, nil
	case a.compare(b) < 0:
		return nil, a
	case a.short():
		return fromUint(a.value() / b.value()), fromUint(a.value() % b.value())
	case len(b) == 1:
		quotient = a.clone()
		left := quotient.divWord(b[0])
		return quotient.trim(), fromUint(uint64(left))
	}
	return a.divLong(b)
}

// over is the quotient of a and b where b divides a.
func (a words) over(b words) words {
	quotient, _ := a.div(b)
	return quotient
}

// divWord divides a by a word in a's own memory and tells the rest.
func (a words) divWord(by uint32) uint32 {
	var rest uint64
	for i := len(a) - 1; i >= 0; i-- {
		rest = rest<<wordBits | uint64(a[i])
		a[i] = uint32(rest / uint64(by))
		rest %= uint64(by)
	}
	return uint32(rest)
}

// divLong divides by a number of two words or more, word by word as on paper. Both are shifted first, until b's first bit is set: only then is a guess from the first words too high by 2 at most.
func (a words) divLong(b words) (quotient, rest words) {
	bits := b.leadingZeros()
	left, by := a.shiftLeft(bits), b.shiftLeft(bits).trim()
	n := len(by)
	quotient = make(words, len(left)-n)
	for i := len(quotient) - 1; i >= 0; i-- {
		part := left[i : i+n+1 : i+n+1]
		guess := part.guess(by)
		if part.takeTimes(by, guess) {
			guess--
			part.increase(by)
		}
		quotient[i] = uint32(guess)
	}
	return quotient.trim(), left[:n].trim().shiftRight(bits)
}

// guess is the first words' quotient: that of a and b, or 1 more. a has a word more than b, and is below b times 2^32.
func (a words) guess(b words) uint64 {
	n := len(b)
	head, first, second := uint64(a[n])<<wordBits|uint64(a[n-1]), uint64(b[n-1]), uint64(b[n-2])
	guess, rest := head/first, head%first
	for guess >= 1<<wordBits || guess*second > rest<<wordBits|uint64(a[n-2]) {
		guess--
		rest += first
		if rest >= 1<<wordBits {
			break
		}
	}
	return guess
}

// takeTimes takes b times a factor from a in a's own memory, and reports whether that was too much: then a is short of one more 2^32 ahead.
func (a words) takeTimes(b words, factor uint64) bool {
	var carry, borrow uint64
	for i := range a {
		carry += b.at(i) * factor
		d := uint64(a[i]) - carry&(1<<wordBits-1) - borrow
		a[i] = uint32(d)
		borrow = d >> 63
		carry >>= wordBits
	}
	return borrow != 0
}
