package plane

import (
	"slices"

	"unbent/api"
	"unbent/frac"
)

// line is an equation in whole numbers without a common divisor: the numbers of its columns' variables, then what they sum to, and last the number, above 0, of its own variable, for which it is solved. A line is never changed, so that tables may share it.
type line []number

// right is what the numbers of the line's variables sum to.
func (l line) right() number { return l[len(l)-2] }

// own is the number of the variable for which the line is solved.
func (l line) own() number { return l[len(l)-1] }

// newLine is the equation whose own variable's number is 1, in whole numbers.
func newLine(columns []api.Frac, right api.Frac) line {
	parts := append(slices.Clone(columns), right, api.Frac{Num: []uint32{1}, Den: []uint32{1}})
	common := short(1)
	for i, f := range parts {
		parts[i] = frac.Fix(f)
		if den := sized(ofWords(parts[i].Den), false); !den.isOne() {
			common = common.times(den.over(common.gcd(den)))
		}
	}
	out := make(line, len(parts))
	for i, f := range parts {
		if len(f.Num) > 0 {
			den := sized(ofWords(f.Den), false)
			out[i] = sized(ofWords(f.Num), f.Neg).times(common.over(den))
		}
	}
	return out.reduced()
}

// reduced is l over what divides all its numbers, so that they stay short.
func (l line) reduced() line {
	common := l.own()
	for _, n := range l[:min(len(l), 4)] { // mostly these tell it already
		common = common.gcd(n)
	}
	for !common.isOne() {
		out, rest := l.over(common)
		if rest.sign() == 0 {
			return out
		}
		common = common.gcd(rest)
	}
	return l
}

// over is l over a number, or else a rest that is left of one of its numbers.
func (l line) over(by number) (line, number) {
	out := make(line, len(l))
	for i, n := range l {
		var rest number
		if out[i], rest = n.div(by); rest.sign() != 0 {
			return nil, rest
		}
	}
	return out, number{}
}

// turned is l with all signs turned.
func (l line) turned() line {
	out := make(line, len(l))
	for i, n := range l {
		out[i] = n.neg()
	}
	return out
}

// taken is l with the signs of its columns and its right side turned, that of its own variable kept.
func (l line) taken() line {
	out := l.turned()
	out[len(l)-1] = l.own()
	return out
}

// solved is l solved for a column's variable, which changes places with l's own one.
func (l line) solved(column int) line {
	out := slices.Clone(l)
	out[column], out[len(l)-1] = l.own(), l[column]
	if l[column].sign() < 0 {
		return out.turned()
	}
	return out
}

// cleared is l without a column's variable, for which other is solved; in the column stands what stood for the variable in other's place.
func (l line) cleared(other line, column int) line {
	if l[column].sign() == 0 {
		return l
	}
	common := l[column].gcd(other.own())
	keep, take := other.own().over(common), l[column].over(common)
	out := make(line, len(l))
	for i := range len(l) - 1 {
		out[i] = keep.times(l[i]).minus(take.times(other[i]))
	}
	out[column] = take.times(other[column]).neg()
	out[len(l)-1] = keep.times(l.own())
	return out.reduced()
}

// further reports whether l's right side is further from 0 than m's one, each measured by the largest number of its line's variables: the way to what mends it is longer then.
func (l line) further(m line) bool {
	return l.right().times(m.largest()).larger(m.right().times(l.largest()))
}

func (l line) largest() number {
	most := l.own()
	for _, n := range l[:len(l)-2] {
		if n.larger(most) {
			most = n
		}
	}
	return most
}

// limbs is how many limbs the longest number has.
func (l line) limbs() int {
	most := 0
	for _, n := range l {
		most = max(most, len(n.limbs))
	}
	return most
}

// cut is l over what makes its longest number as many limbs long, all numbers without their rests. What was less than half as long is taken to stand for 0: it may be made of earlier rests alone.
func (l line) cut(longest int) line {
	out := make(line, len(l))
	drop := l.limbs() - longest
	for i, n := range l {
		if len(n.limbs) > drop+longest/2 {
			out[i] = sized(n.limbs[drop:], n.value < 0)
		}
	}
	if out.own().sign() == 0 {
		out[len(l)-1] = short(1)
	}
	return out
}
