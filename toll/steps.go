package toll

import (
	"slices"

	"unbent/api"
	"unbent/frac"
)

// bounds is the start of each piece, and last the end of the box.
func bounds(s api.Steps) []api.Frac {
	return slices.Concat([]api.Frac{s.Low}, s.Cuts, []api.Frac{s.High})
}

// rising reports whether each number is above the one ahead of it.
func rising(l []api.Frac) bool {
	for i := 1; i < len(l); i++ {
		if frac.Cmp(l[i-1], l[i]) >= 0 {
			return false
		}
	}
	return true
}

// pieceOf is the piece of a number; false, if the steps are not right or the number is outside of the box.
func pieceOf(s api.Steps, v api.Frac) (int, bool) {
	if RightSteps(s) != api.OK || frac.Cmp(v, s.Low) < 0 || frac.Cmp(v, s.High) > 0 {
		return 0, false
	}
	piece := 0
	for _, cut := range s.Cuts {
		if frac.Cmp(cut, v) <= 0 {
			piece++
		}
	}
	return piece, true
}

// prices is what is got and paid at each piece of a box.
type prices struct {
	shares, tolls, bounds []api.Frac
	has                   [][]api.Frac // what who has the number at a bound has by saying a number of a piece
}

func newPrices(s api.Steps, tolls []api.Frac) prices {
	out := prices{shares: s.Shares, tolls: tolls, bounds: bounds(s)}
	for _, v := range out.bounds {
		var row []api.Frac
		for i, share := range s.Shares {
			var left products
			left.add(v, share)
			left.take(one(), tolls[i])
			row = append(row, left.sum())
		}
		out.has = append(out.has, row)
	}
	return out
}

// gains reports whether who has the number at a bound, and would say a number of piece i, gains by saying one of piece j.
func (p prices) gains(bound, i, j int) bool {
	return frac.Cmp(p.has[bound][j], p.has[bound][i]) > 0
}

// gain is what who has the number v of piece i gains by saying a number of piece j.
func (p prices) gain(v api.Frac, i, j int) api.Frac {
	var gain products
	gain.add(v, p.shares[j])
	gain.take(v, p.shares[i])
	gain.add(one(), p.tolls[i])
	gain.take(one(), p.tolls[j])
	return gain.sum()
}

// even is the number that has the same by saying a number of piece i as by one of piece j, whose shares differ.
func (p prices) even(i, j int) api.Frac {
	less := frac.Neg(one())
	rows := [][]api.Frac{{p.shares[i], less}, {p.shares[j], less}}
	x, _, _, _ := frac.Linear(rows, []api.Frac{p.tolls[i], p.tolls[j]}) // the number, and what it has
	return x[0]
}

// gainer is a number of piece i that gains by saying one of piece j: the start, if it does. Else, as the gain changes by the same from number to number, one does just if there is a gain at the end (then j's share is greater; it is asked for as what is had may be too long), and all do behind the number where there is none yet.
func (p prices) gainer(i, j int) (api.Frac, bool) {
	switch {
	case p.gains(i, i, j):
		return frac.Fix(p.bounds[i]), true
	case p.gains(i+1, i, j) && frac.Cmp(p.shares[i], p.shares[j]) < 0:
		return middle(p.even(i, j), p.bounds[i+1]), true
	}
	return zero(), false
}
