package hall

import (
	"slices"

	"unbent/api"
)

// orders hands over each order of 0 to n - 1, the first difference counting. Who gets it may not keep it.
func orders(n int, use func(order []int)) {
	order := make([]int, 0, n)
	var extend func()
	extend = func() {
		if len(order) == n {
			use(order)
			return
		}
		for next := range n {
			if !slices.Contains(order, next) {
				order = append(order, next)
				extend()
				order = order[:len(order)-1]
			}
		}
	}
	extend()
}

// factorial is how many orders of n there are.
func factorial(n int) int {
	out := 1
	for i := range n {
		out *= i + 1
	}
	return out
}

// chosen is what each takes, one behind the other: the first of its list that is left, or nothing.
func chosen(order []int, wants [][]int) []int {
	got := nothing(len(wants))
	isLeft := func(thing int) bool { return !slices.Contains(got, thing) }
	for _, agent := range order {
		if at := slices.IndexFunc(wants[agent], isLeft); at >= 0 {
			got[agent] = wants[agent][at]
		}
	}
	return got
}

// timesChosen is for each agent in how many orders it takes each thing.
func timesChosen(wants [][]int) [][api.MaxParts]int {
	out := make([][api.MaxParts]int, len(wants))
	orders(len(wants), func(order []int) {
		for agent, thing := range chosen(order, wants) {
			if thing != without {
				out[agent][thing]++
			}
		}
	})
	return out
}
