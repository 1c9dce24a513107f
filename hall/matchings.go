package hall

import "unbent/api"

// checkSides is ErrSize, if there are too many proposers or receivers, ErrList, if a list of them is not right.
func checkSides(proposers, receivers [][]int) api.Errno {
	if e := checkLists(proposers, api.MaxParts, len(receivers), right); e != api.OK {
		return e
	}
	return checkLists(receivers, api.MaxParts, len(proposers), right)
}

// kept is the proposer that each receiver keeps, the best one of those that propose to it. A proposer that is not kept any more goes on down its list.
func kept(proposers, receivers [][]int) []int {
	keeps := nothing(len(receivers))
	asked := make([]int, len(proposers)) // how many of its list each has proposed to
proposals:
	for first := range proposers {
		for p := first; p != without; {
			if asked[p] == len(proposers[p]) {
				continue proposals
			}
			r := proposers[p][asked[p]]
			asked[p]++
			if ahead(receivers[r], p, keeps[r]) {
				p, keeps[r] = keeps[r], p
			}
		}
	}
	return keeps
}

// turned is a matching seen from its other side, on which there are so many.
func turned(match []int, others int) []int {
	out := nothing(others)
	for one, other := range match {
		if other != without {
			out[other] = one
		}
	}
	return out
}

// isMatching reports whether each proposer has a receiver or is without, and no receiver comes twice.
func isMatching(match []int, proposers, receivers int) bool {
	var matched []int
	for _, r := range match {
		if r != without {
			matched = append(matched, r)
		}
	}
	return len(match) == proposers && right(matched, receivers)
}

// blocking is the first pair that blocks a matching, or, as willing is asked for first, a proposer of a pair that do not want each other and -1; -1 and -1, if there is none.
func blocking(proposers, receivers [][]int, match []int) (p, r int) {
	has := turned(match, len(receivers))
	for p, list := range proposers {
		own := match[p]
		if own != without && (ahead(list, without, own) || ahead(receivers[own], without, p)) {
			return p, -1
		}
		for r, other := range receivers {
			if ahead(list, r, own) && ahead(other, p, has[r]) {
				return p, r
			}
		}
	}
	return -1, -1
}
