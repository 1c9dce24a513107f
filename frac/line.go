package frac

// line is an equation in whole numbers: those at its columns, and last what they are to give.
type line []number

// whole is a multiple of a row: whole numbers without a common divisor.
func whole(row []ratio) line {
	common := one()
	for _, r := range row {
		common = common.lcm(r.den)
	}
	out := make(line, len(row))
	for i, r := range row {
		out[i] = r.num.scale(common.over(r.den))
	}
	out.reduce()
	return out
}

// reduce divides a line by what divides all its numbers, so that they stay short.
func (l line) reduce() {
	var common words
	for _, n := range l {
		if common = common.gcd(n.words); common.isOne() {
			return
		}
	}
	if common.isZero() {
		return
	}
	for i, n := range l {
		l[i] = n.shrink(common)
	}
}

// bringUp makes the first line that has something at a column the first one; it reports whether there is one.
func bringUp(lines []line, column int) bool {
	for _, l := range lines {
		if l[column].isZero() {
			continue
		}
		kept := make(line, len(l))
		copy(kept, l)
		copy(l, lines[0])
		copy(lines[0], kept)
		return true
	}
	return false
}

// clear takes a multiple of another line from a multiple of l, so that nothing is left at the column. Neither has anything ahead of it.
func (l line) clear(other line, column int) {
	if l[column].isZero() {
		return
	}
	common := l[column].gcd(other[column].words)
	keep, take := other[column].shrink(common), l[column].shrink(common).neg()
	changed := make(line, len(l)-column)
	for i := range changed {
		changed[i] = l[column+i].times(keep).plus(other[column+i].times(take))
	}
	changed.reduce()
	copy(l[column:], changed)
}

// unknown is what must stand at a column if x stands at the columns behind it, and nothing ahead counts.
func (l line) unknown(column int, x []ratio) ratio {
	common := one()
	for j := column + 1; j < len(x); j++ {
		if !l[j].isZero() {
			common = common.lcm(x[j].den)
		}
	}
	left := l[len(x)].scale(common)
	for j := column + 1; j < len(x); j++ {
		if !l[j].isZero() {
			part := l[j].times(x[j].num).scale(common.over(x[j].den))
			left = left.plus(part.neg())
		}
	}
	at := l[column].scale(common)
	return lowest(signed(left.words, left.below != at.below), at.words)
}
