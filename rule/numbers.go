package rule

import (
	"unbent/api"
	"unbent/frac"
)

func zero() api.Frac { return frac.Fix(api.Frac{}) }

func one() api.Frac {
	f, _ := frac.Make(1, 1)
	return f
}

func isOne(f api.Frac) bool { return frac.Cmp(f, one()) == 0 }

// copied is a cell in memory of its own, its numbers right.
func copied(c api.Cell) api.Cell {
	return api.Cell{Lot: fixed(c.Lot), Pay: fixed(c.Pay)}
}

func fixed(l []api.Frac) []api.Frac {
	out := make([]api.Frac, len(l))
	for i, f := range l {
		out[i] = frac.Fix(f)
	}
	return out
}

// mixture is w times the cells of a and 1 - w times those of b, which are as many and as long.
func mixture(a, b api.Rule, w api.Frac) api.Rule {
	shares := []api.Frac{w, frac.Sub(one(), w)}
	mixed := func(x, y []api.Frac) []api.Frac {
		out := make([]api.Frac, len(x))
		for i := range out {
			out[i] = frac.Dot(shares, []api.Frac{x[i], y[i]})
		}
		return out
	}
	var out api.Rule
	for i, c := range a.Cells {
		d := b.Cells[i]
		out.Cells = append(out.Cells, api.Cell{Lot: mixed(c.Lot, d.Lot), Pay: mixed(c.Pay, d.Pay)})
	}
	return out
}
