package hall

import (
	"slices"

	"unbent/api"
	"unbent/frac"
)

// rightMatrix reports whether a matrix has as many columns as rows, one at least, no entry below 0, and rows and columns that sum to 1.
func rightMatrix(m [][]api.Frac) bool {
	notSquare := func(row []api.Frac) bool { return len(row) != len(m) }
	if len(m) == 0 || slices.ContainsFunc(m, notSquare) {
		return false
	}
	for i, row := range m {
		var column []api.Frac
		for _, other := range m {
			column = append(column, other[i])
		}
		if !isLottery(row) || !isLottery(column) {
			return false
		}
	}
	return true
}

func isLottery(l []api.Frac) bool {
	below := func(f api.Frac) bool { return frac.Sign(f) < 0 }
	one, _ := frac.Make(1, 1)
	return !slices.ContainsFunc(l, below) && frac.Cmp(frac.Sum(l), one) == 0
}

// rest is what is left of a matrix. Whether an entry is above 0 is kept beside it, as asking for it takes long where numbers are long.
type rest struct {
	entries [mostDrawn][mostDrawn]api.Frac
	above   [mostDrawn][mostDrawn]bool
}

func restOf(m [][]api.Frac) *rest {
	out := &rest{}
	for i, row := range m {
		for j, entry := range row {
			out.set(i, j, entry)
		}
	}
	return out
}

func (r *rest) set(row, column int, entry api.Frac) {
	r.entries[row][column], r.above[row][column] = entry, frac.Sign(entry) > 0
}

// has reports whether all entries of an assignment are above 0.
func (r *rest) has(to []int) bool {
	for row, column := range to {
		if !r.above[row][column] {
			return false
		}
	}
	return true
}

// take takes the least entry of an assignment from each of its entries, and tells it.
func (r *rest) take(to []int) api.Frac {
	var all []api.Frac
	for row, column := range to {
		all = append(all, r.entries[row][column])
	}
	least := all[frac.Least(all)]
	for row, column := range to {
		r.set(row, column, frac.Sub(all[row], least))
	}
	return frac.Fix(least)
}
