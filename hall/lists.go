package hall

import (
	"slices"

	"unbent/api"
)

// without stands in the place of a thing that one does not have.
const without = -1

// right reports whether a list has nothing but things, of so many (at most MaxParts), none twice.
func right(list []int, things int) bool {
	var has [api.MaxParts]bool
	for _, thing := range list {
		if thing < 0 || thing >= things || has[thing] {
			return false
		}
		has[thing] = true
	}
	return true
}

// total reports whether a list is right and has all things.
func total(list []int, things int) bool { return len(list) == things && right(list, things) }

// checkLists is ErrSize, if there are too many lists or things, ErrList, if a list is not as it is to be, right or total.
func checkLists(lists [][]int, most, things int, toBe func(list []int, things int) bool) api.Errno {
	if len(lists) > most || things < 0 || things > api.MaxParts {
		return api.ErrSize
	}
	for _, list := range lists {
		if !toBe(list, things) {
			return api.ErrList
		}
	}
	return api.OK
}

// place is how far down one ranks a thing: as it stands in the list, behind the whole list to be without, and behind that what is not in the list.
func place(list []int, thing int) int {
	if thing == without {
		return len(list)
	}
	if at := slices.Index(list, thing); at >= 0 {
		return at
	}
	return len(list) + 1
}

// ahead reports whether one ranks a thing ahead of another one.
func ahead(list []int, thing, other int) bool { return place(list, thing) < place(list, other) }

// nothing is for each of n that it is without.
func nothing(n int) []int { return slices.Repeat([]int{without}, n) }
