package toll

import (
	"unbent/api"
	"unbent/frac"
)

func zero() api.Frac { return frac.Fix(api.Frac{}) }

func one() api.Frac {
	f, _ := frac.Make(1, 1)
	return f
}

// zeros is n numbers that are 0, each in memory of its own.
func zeros(n int) []api.Frac {
	out := make([]api.Frac, n)
	for i := range out {
		out[i] = zero()
	}
	return out
}

// middle is the number between two.
func middle(a, b api.Frac) api.Frac {
	half, _ := frac.Make(1, 2)
	return frac.Dot([]api.Frac{half, half}, []api.Frac{a, b})
}

// products is a sum of products that is computed at once, so that only the sum itself may not be too long.
type products struct{ left, right []api.Frac }

func (p *products) add(a, b api.Frac) {
	p.left, p.right = append(p.left, a), append(p.right, b)
}

func (p *products) take(a, b api.Frac) { p.add(frac.Neg(a), b) }

func (p *products) sum() api.Frac { return frac.Dot(p.left, p.right) }
