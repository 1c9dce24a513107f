package frac

// words is a whole number that is not below 0: the sum of its words, each times 2^32 to the power of its place. No zero word stands last. Words are never changed once a method has returned them, so that numbers may share them.
type words []uint32

const wordBits = 32

// one is the number 1.
func one() words { return words{1} }

// fromUint is n as words.
func fromUint(n uint64) words {
	return words{uint32(n), uint32(n >> wordBits)}.trim()
}

func (a words) isZero() bool { return len(a) == 0 }

func (a words) isOne() bool { return len(a) == 1 && a[0] == 1 }

// trimmed reports whether no zero word stands last.
func (a words) trimmed() bool { return len(a) == 0 || a[len(a)-1] != 0 }

// trim drops the zero words that stand last.
func (a words) trim() words {
	n := len(a)
	for n > 0 && a[n-1] == 0 {
		n--
	}
	return a[:n:n]
}

// clone is a in memory of its own; 0 has none.
func (a words) clone() words {
	if a.isZero() {
		return nil
	}
	out := make(words, len(a))
	copy(out, a)
	return out
}

// at is the word at a place, 0 where there is none.
func (a words) at(place int) uint64 {
	if place < len(a) {
		return uint64(a[place])
	}
	return 0
}

// short reports whether a fits in 64 bits; only then does value tell it.
func (a words) short() bool { return len(a) <= 2 }

func (a words) value() uint64 { return a.at(1)<<wordBits | a.at(0) }

// cut takes a apart: it is low plus high times 2^32 to the power of place.
func (a words) cut(place int) (low, high words) {
	if len(a) <= place {
		return a, nil
	}
	return a[:place:place].trim(), a[place:len(a):len(a)]
}

// compare is -1, 0 or 1 as a is less than, equal to or greater than b.
func (a words) compare(b words) int {
	if len(a) != len(b) {
		return order(len(a), len(b))
	}
	for i := len(a) - 1; i >= 0; i-- {
		switch {
		case a[i] < b[i]:
			return -1
		case a[i] > b[i]:
			return 1
		}
	}
	return 0
}

// order is -1 if a is less than b, else 1.
func order(a, b int) int {
	if a < b {
		return -1
	}
	return 1
}

// add is a + b.
func (a words) add(b words) words {
	if len(a) < len(b) {
		a, b = b, a
	}
	out := make(words, len(a)+1)
	copy(out, a)
	out.increase(b)
	return out.trim()
}

// increase adds b to a in a's own memory, which has room for the sum.
func (a words) increase(b words) {
	var carry uint64
	for i := range a {
		if i >= len(b) && carry == 0 {
			return
		}
		carry += uint64(a[i]) + b.at(i)
		a[i] = uint32(carry)
		carry >>= wordBits
	}
}

// sub is a - b, where b is not above a.
func (a words) sub(b words) words {
	out := make(words, len(a))
	var borrow uint64
	for i, w := range a {
		d := uint64(w) - b.at(i) - borrow
		out[i] = uint32(d)
		borrow = d >> 63
	}
	return out.trim()
}

// shiftLeft is a times 2^bits, with a word more than a has; bits is below 32.
func (a words) shiftLeft(bits int) words {
	out := make(words, len(a)+1)
	var carry uint64
	for i, w := range a {
		carry |= uint64(w) << bits
		out[i] = uint32(carry)
		carry >>= wordBits
	}
	out[len(a)] = uint32(carry)
	return out
}

// shiftRight is a / 2^bits without its rest; bits is below 32.
func (a words) shiftRight(bits int) words {
	out := make(words, len(a))
	for i := range a {
		out[i] = uint32((a.at(i+1)<<wordBits | a.at(i)) >> bits)
	}
	return out.trim()
}

// leadingZeros is how many zero bits stand ahead of the first one bit in a's last word; a is not 0.
func (a words) leadingZeros() int {
	n := 0
	for top := a[len(a)-1]; top < 1<<(wordBits-1); top <<= 1 {
		n++
	}
	return n
}
