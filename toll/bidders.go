package toll

import (
	"slices"

	"unbent/api"
	"unbent/frac"
	"unbent/speech"
)

// The names of bidders and of their kinds.
var (
	names   = [api.MaxBidders]string{"one", "two", "three"}
	letters = [api.MaxKinds]string{"a", "b", "c", "d"}
)

// rightBidder reports whether a bidder has values, at most so many, that rise, each with a weight above 0.
func rightBidder(b api.Bidder, most int) bool {
	notAbove := func(f api.Frac) bool { return frac.Sign(f) <= 0 }
	n := len(b.Values)
	return n > 0 && n <= most && len(b.Weights) == n && rising(b.Values) && !slices.ContainsFunc(b.Weights, notAbove)
}

func rightBidders(bs []api.Bidder) bool {
	if len(bs) == 0 || len(bs) > api.MaxBidders {
		return false
	}
	profiles := 1
	for _, b := range bs {
		if !rightBidder(b, api.MaxKinds) {
			return false
		}
		profiles *= len(b.Values)
	}
	return profiles <= api.MaxProfiles
}

// virtual is what it brings in, by the weight of a value that is not the last one, to sell to it too: the value, less what all above it then pay less.
func virtual(b api.Bidder, i int) api.Frac {
	behind := frac.Sum(b.Weights[i+1:])
	var less products
	less.add(b.Values[i+1], behind)
	less.take(b.Values[i], behind)
	each, _ := frac.Div(less.sum(), b.Weights[i])
	return frac.Sub(b.Values[i], each)
}

// run is neighbours that are pooled: how many, and their mean.
type run struct {
	size int
	mean api.Frac
}

// pooled is runs whose means rise.
func pooled(values, weights []api.Frac) []run {
	var runs []run
	for i := range values {
		last := run{1, values[i]}
		for len(runs) > 0 && frac.Cmp(last.mean, runs[len(runs)-1].mean) <= 0 {
			size := last.size + runs[len(runs)-1].size
			last = run{size, mean(values[i+1-size:i+1], weights[i+1-size:i+1])}
			runs = runs[:len(runs)-1]
		}
		runs = append(runs, last)
	}
	return runs
}

// mean is the mean of values by weights, which are above 0. It is the last number of a system of equations, each other number being how far a value is below it, which sum to 0 by the weights: there only the mean must not be too long, while of sums and a division each sum must not.
func mean(values, weights []api.Frac) api.Frac {
	n := len(values)
	rows := make([][]api.Frac, n+1)
	right := make([]api.Frac, n+1) // an empty fraction stands for 0
	for i, value := range values {
		rows[i] = make([]api.Frac, n+1)
		rows[i][i], rows[i][n] = frac.Neg(one()), one()
		right[i] = value
	}
	rows[n] = append(slices.Clone(weights), zero())
	x, _, _, _ := frac.Linear(rows, right)
	return x[n]
}

// spread is each run's mean, as often as it has values.
func spread(runs []run) []api.Frac {
	var out []api.Frac
	for _, r := range runs {
		for range r.size {
			out = append(out, frac.Fix(r.mean))
		}
	}
	return out
}

// kindsOf is a bidder's kinds in a game of so many outcomes, of which one is that it has the thing.
func kindsOf(b api.Bidder, own, outs int) []api.Kind {
	var out []api.Kind
	for i, value := range b.Values {
		worth := zeros(outs)
		worth[own] = frac.Fix(value)
		out = append(out, api.Kind{Name: letters[i], Weight: frac.Fix(b.Weights[i]), Alone: zero(), Worth: worth})
	}
	return out
}

// sale is bidders with their ironed values.
type sale struct {
	bidders []api.Bidder
	ironed  [][]api.Frac
}

func newSale(bs []api.Bidder) sale {
	out := sale{bidders: bs}
	for _, b := range bs {
		ironed, _ := Ironed(b)
		out.ironed = append(out.ironed, ironed)
	}
	return out
}

// winner is who has the thing at a profile, or nobody.
func (s sale) winner(profile []int) int {
	var values []api.Frac
	for agent, kind := range profile {
		values = append(values, s.ironed[agent][kind])
	}
	first := frac.Most(values)
	if frac.Sign(values[first]) <= 0 {
		return nobody
	}
	return first
}

// price is the least of its values with which who has the thing at a profile would have it there; that of its own kind is one.
func (s sale) price(profile []int, winner int) api.Frac {
	kind := 0
	for s.winner(speech.Put(profile, winner, kind)) != winner {
		kind++
	}
	return frac.Fix(s.bidders[winner].Values[kind])
}

// cell is what the auction gives at a profile.
func (s sale) cell(profile []int) api.Cell {
	winner := s.winner(profile)
	out := api.Cell{Lot: sure(1+len(profile), 1+winner), Pay: zeros(len(profile))} // nobody's outcome is the first one
	if winner != nobody {
		out.Pay[winner] = s.price(profile, winner)
	}
	return out
}
