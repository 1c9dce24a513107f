package frac

// number is a whole number: words with a sign. 0 is not below 0.
type number struct {
	words
	below bool
}

// signed is w, below 0 if it is said so and w is not 0.
func signed(w words, below bool) number {
	return number{w, below && !w.isZero()}
}

// fromInt is n as a number.
func fromInt(n int) number {
	if n < 0 {
		return number{fromUint(-uint64(n)), true}
	}
	return number{fromUint(uint64(n)), false}
}

// sign is -1, 0 or 1.
func (n number) sign() int {
	switch {
	case n.isZero():
		return 0
	case n.below:
		return -1
	}
	return 1
}

func (n number) neg() number { return signed(n.words, !n.below) }

func (n number) plus(m number) number {
	switch {
	case n.below == m.below:
		return signed(n.add(m.words), n.below)
	case n.compare(m.words) < 0:
		return signed(m.sub(n.words), m.below)
	}
	return signed(n.sub(m.words), n.below)
}

func (n number) times(m number) number {
	return signed(n.mul(m.words), n.below != m.below)
}

// scale is n times a number without a sign.
func (n number) scale(by words) number { return signed(n.mul(by), n.below) }

// shrink is n over a number that divides it.
func (n number) shrink(by words) number { return signed(n.over(by), n.below) }
