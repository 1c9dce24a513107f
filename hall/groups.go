package hall

// isIn reports whether one is in a group: a number whose bits are its members.
func isIn(group, one int) bool { return group>>one&1 == 1 }

// join is a group with one more.
func join(group, one int) int { return group | 1<<one }

// leave is a group without one of it.
func leave(group, one int) int { return group &^ (1 << one) }

// membersOf is a group's members, rising.
func membersOf(group int) []int {
	var out []int
	for one := 0; group>>one > 0; one++ {
		if isIn(group, one) {
			out = append(out, one)
		}
	}
	return out
}
