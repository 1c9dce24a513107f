package plane

import (
	"cmp"
	"math"
	"math/bits"
)

// number is a whole number. A short one is its value. Of a longer one the limbs are its size, and the value, 1 or -1, is its sign alone: most numbers of a table are short, and need no memory but a place in their line.
type number struct {
	value int64
	limbs limbs
}

func short(n int) number { return number{value: int64(n)} }

// sized is the number of that size, below 0 or not.
func sized(size limbs, below bool) number {
	n := number{1, size}
	if len(size) == 0 || len(size) == 1 && size[0] <= math.MaxInt64 {
		n = number{value: int64(size.at(0))}
	}
	if below {
		n.value = -n.value
	}
	return n
}

func (n number) isShort() bool { return n.limbs == nil }

func (n number) isOne() bool { return n.isShort() && n.value == 1 }

// sign is -1, 0 or 1.
func (n number) sign() int { return cmp.Compare(n.value, 0) }

// magnitude is the size of a short number.
func (n number) magnitude() uint64 { return uint64(max(n.value, -n.value)) }

func (n number) size() limbs {
	if n.isShort() {
		return fromUint(n.magnitude())
	}
	return n.limbs
}

// larger reports whether n's size is above m's one.
func (n number) larger(m number) bool {
	if n.isShort() && m.isShort() {
		return n.magnitude() > m.magnitude()
	}
	return n.size().compare(m.size()) > 0
}

func (n number) neg() number { return number{-n.value, n.limbs} }

func (n number) times(m number) number {
	below := n.value < 0 != (m.value < 0)
	if n.isShort() && m.isShort() {
		high, low := bits.Mul64(n.magnitude(), m.magnitude())
		if high == 0 && low <= math.MaxInt64 {
			if below {
				return number{value: -int64(low)}
			}
			return number{value: int64(low)}
		}
	}
	return sized(n.size().mul(m.size()), below)
}

func (n number) minus(m number) number {
	if n.isShort() && m.isShort() {
		d := n.value - m.value
		if (n.value < m.value) == (d < 0) && d != math.MinInt64 {
			return number{value: d}
		}
	}
	a, b := n.size(), m.size()
	switch {
	case n.value < 0 != (m.value < 0):
		return sized(a.add(b), n.value < 0)
	case a.compare(b) < 0:
		return sized(b.sub(a), n.value >= 0)
	}
	return sized(a.sub(b), n.value < 0)
}

// div is the quotient of n and a number above 0, and the rest, which is not below 0 where n is not.
func (n number) div(by number) (quotient, rest number) {
	if n.isShort() && by.isShort() {
		return number{value: n.value / by.value}, number{value: n.value % by.value}
	}
	q, r := n.size().div(by.size())
	return sized(q, n.value < 0), sized(r, n.value < 0)
}

// over is n over a number above 0 that divides it.
func (n number) over(by number) number {
	if by.isOne() {
		return n
	}
	quotient, _ := n.div(by)
	return quotient
}

// gcd is the greatest common divisor of n and m: not below 0; of 0 and m it is m's size.
func (n number) gcd(m number) number {
	if n.isShort() && m.isShort() {
		return number{value: int64(gcdUint(n.magnitude(), m.magnitude()))}
	}
	return sized(n.size().gcd(m.size()), false)
}
