package hall

import "slices"

// traded is what each gets by top trading cycles, cycle by cycle.
func traded(wants [][]int) []int {
	got := nothing(len(wants))
	for slices.Contains(got, without) {
		points := pointed(wants, got)
		agent := slices.Index(got, without)
		for range wants { // so many steps lead into a cycle
			agent = points[agent]
		}
		for got[agent] == without {
			got[agent] = points[agent]
			agent = points[agent]
		}
	}
	return got
}

// pointed is for each agent the first thing of its list whose owner has got nothing yet.
func pointed(wants [][]int, got []int) []int {
	isLeft := func(thing int) bool { return got[thing] == without }
	var out []int
	for _, list := range wants {
		out = append(out, list[slices.IndexFunc(list, isLeft)])
	}
	return out
}

// mayShare reports whether the agents of a group could share as many things such that each has what it got, or one that it ranks ahead, and one at least has such a one, or has gained already. Both are numbers whose bits are agents or things.
func mayShare(wants [][]int, got []int, group, things int, gained bool) bool {
	if group == 0 {
		return gained
	}
	agent := membersOf(group)[0]
	for _, thing := range wants[agent] {
		isOwn := thing == got[agent]
		if isIn(things, thing) && mayShare(wants, got, leave(group, agent), leave(things, thing), gained || !isOwn) {
			return true
		}
		if isOwn {
			break
		}
	}
	return false
}
