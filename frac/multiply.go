package frac

// karatsubaWords is the length from which on three products of halves take less time than four (measured).
const karatsubaWords = 128

// mul is a * b.
func (a words) mul(b words) words {
	if len(a) < len(b) {
		a, b = b, a
	}
	switch {
	case b.isZero():
		return nil
	case b.isOne():
		return a
	case len(b) < karatsubaWords:
		return a.mulPlain(b)
	}
	return a.mulHalves(b)
}

// mulPlain multiplies each word by each.
func (a words) mulPlain(b words) words {
	out := make(words, len(a)+len(b))
	for j, w := range b {
		factor, carry := uint64(w), uint64(0)
		line := out[j : j+len(a) : j+len(a)]
		for i, v := range a {
			carry += uint64(v)*factor + uint64(line[i])
			line[i] = uint32(carry)
			carry >>= wordBits
		}
		out[j+len(a)] = uint32(carry)
	}
	return out.trim()
}

// mulHalves cuts both numbers at half of the longer one, a: (a0 + a1 h)(b0 + b1 h) is a0 b0 + ((a0 + a1)(b0 + b1) - a0 b0 - a1 b1) h + a1 b1 h^2.
func (a words) mulHalves(b words) words {
	half := (len(a) + 1) / 2
	a0, a1 := a.cut(half)
	b0, b1 := b.cut(half)
	out := make(words, len(a)+len(b)+1)
	low := a0.mul(b0)
	copy(out, low)
	if b1.isZero() {
		out[half:].increase(a1.mul(b0))
		return out.trim()
	}
	high := a1.mul(b1)
	middle := a0.add(a1).mul(b0.add(b1)).sub(low).sub(high)
	out[2*half:].increase(high)
	out[half:].increase(middle)
	return out.trim()
}
