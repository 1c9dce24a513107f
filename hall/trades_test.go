package hall_test

import (
	"math/rand"
	"slices"
	"testing"

	"unbent/api"
	"unbent/hall"
)

// groupOf is the members of a group.
func groupOf(group int) []int {
	var out []int
	for i := range 8 {
		if group&(1<<i) != 0 {
			out = append(out, i)
		}
	}
	return out
}

// objecting is what Object is to tell, by its words: groups and orders of their things, one by one.
func objecting(wants [][]int, got []int) []int {
	for group := 1; group < 1<<len(wants); group++ {
		members := groupOf(group)
		for _, order := range allOrders(len(members)) {
			better := false
			worse := false
			for i, agent := range members {
				change := liking(wants[agent], members[order[i]]) - liking(wants[agent], got[agent])
				better, worse = better || change > 0, worse || change < 0
			}
			if better && !worse {
				return members
			}
		}
	}
	return nil
}

func checkObject(t *testing.T, wants [][]int, got []int) []int {
	t.Helper()
	group, e := hall.Object(wants, got)
	if e != api.OK || !slices.Equal(group, objecting(wants, got)) {
		t.Fatal("Object", wants, got, group, e, objecting(wants, got))
	}
	return group
}

func trade(t *testing.T, wants [][]int) []int {
	t.Helper()
	got, e := hall.Trade(wants)
	if e != api.OK || len(got) != len(wants) {
		t.Fatal("Trade", wants, got, e)
	}
	return got
}

// checkCore checks that no group objects to what Trade tells, and to each of some other ones some group does (P7.4).
func checkCore(t *testing.T, wants [][]int, others [][]int) {
	t.Helper()
	told := trade(t, wants)
	for _, got := range append(others, told) {
		if objects := len(checkObject(t, wants, got)) > 0; objects == slices.Equal(got, told) {
			t.Fatal("objects", wants, told, got, objects)
		}
	}
}

// P7.1 and P7.4, of all wants of up to three.
func TestTradesOfThree(t *testing.T) {
	for n := range 4 {
		all := allOrders(n)
		for _, wants := range allChoices(n, all) {
			checkCore(t, wants, all)
			checkTradeLies(t, wants, all, n)
		}
	}
}

func TestTrade(t *testing.T) {
	r := rand.New(rand.NewSource(21))
	four := allOrders(4)
	for range 200 {
		checkCore(t, drawTotals(r, 4), four)
	}
	for range 100 {
		checkCore(t, drawTotals(r, 5), drawTotals(r, 5))
	}
	for range 2 {
		checkCore(t, drawTotals(r, 8), drawTotals(r, 8)[:1])
	}
}

// inTurns is top trading cycles in another way: all cycles of a turn at once.
func inTurns(wants [][]int) []int {
	got := make([]int, len(wants))
	gone := map[int]bool{}
	for len(gone) < len(wants) {
		points := map[int]int{}
		for agent, list := range wants {
			for i := len(list) - 1; i >= 0 && !gone[agent]; i-- {
				if !gone[list[i]] {
					points[agent] = list[i]
				}
			}
		}
		for agent := range points {
			at := points[agent]
			for range wants {
				if at != agent {
					at = points[at]
				}
			}
			if at == agent {
				got[agent] = points[agent]
				gone[agent] = true
			}
		}
	}
	return got
}

// As many as there may be.
func TestTradeOfEight(t *testing.T) {
	r := rand.New(rand.NewSource(22))
	for range 3000 {
		wants := drawTotals(r, 1+r.Intn(8))
		got := trade(t, wants)
		if group, e := hall.Object(wants, got); len(group) > 0 || e != api.OK || !slices.Equal(got, inTurns(wants)) {
			t.Fatal(wants, got, inTurns(wants), group, e)
		}
		other := r.Perm(len(wants))
		if group, e := hall.Object(wants, other); len(group) == 0 != slices.Equal(got, other) || e != api.OK {
			t.Fatal(wants, got, other, group, e)
		}
	}
}

// checkTradeLies checks that no group of so many at most, by any of some lists, gets what is ahead for one of them and behind for none (P7.4).
func checkTradeLies(t *testing.T, wants [][]int, lists [][]int, most int) {
	t.Helper()
	told := trade(t, wants)
	for group := 1; group < 1<<len(wants); group++ {
		members := groupOf(group)
		if len(members) > most {
			continue
		}
		for _, lie := range allChoices(len(members), lists) {
			said := slices.Clone(wants)
			for i, agent := range members {
				said[agent] = lie[i]
			}
			got := trade(t, said)
			better, worse := 0, 0
			for _, agent := range members {
				switch change := liking(wants[agent], got[agent]) - liking(wants[agent], told[agent]); {
				case change > 0:
					better++
				case change < 0:
					worse++
				}
			}
			if better > 0 && worse == 0 {
				t.Fatal("a lie gains", wants, members, lie, told, got)
			}
		}
	}
}

func TestTradeLies(t *testing.T) {
	r := rand.New(rand.NewSource(23))
	four := allOrders(4)
	for range 10 {
		checkTradeLies(t, drawTotals(r, 4), four, 2)
	}
	for range 30 {
		checkTradeLies(t, drawTotals(r, 4), drawTotals(r, 4), 4)
		checkTradeLies(t, drawTotals(r, 8), drawTotals(r, 8)[:2], 3)
	}
}

// Cases of Object that are near one another.
func TestObjectOfFew(t *testing.T) {
	for name, c := range map[string]struct {
		wants [][]int
		got   []int
		group []int
	}{
		"nobody":                          {nil, nil, nil},
		"one alone":                       {[][]int{{0}}, []int{0}, nil},
		"one that lost its own":           {[][]int{{0, 1}, {0, 1}}, []int{1, 0}, []int{0}},
		"who lost nothing":                {[][]int{{0, 1}, {0, 1}}, []int{0, 1}, nil},
		"two who would change":            {[][]int{{1, 0}, {0, 1}}, []int{0, 1}, []int{0, 1}},
		"one that would help another one": {[][]int{{2, 0, 1}, {1, 0, 2}, {1, 0, 2}}, []int{1, 0, 2}, []int{0}},
		"with one that has as much":       {[][]int{{1, 0, 2}, {2, 0, 1}, {0, 2, 1}}, []int{1, 0, 2}, []int{0, 1, 2}},
		"the first by its number":         {[][]int{{0, 1, 2}, {2, 1, 0}, {1, 2, 0}}, []int{0, 1, 2}, []int{1, 2}},
	} {
		if group := checkObject(t, c.wants, c.got); !slices.Equal(group, c.group) {
			t.Error(name, group)
		}
	}
}

// All want the same things, so that there are many ways to share.
func TestObjectOfMany(t *testing.T) {
	var wants [][]int
	for range 8 {
		wants = append(wants, []int{0, 1, 2, 3, 4, 5, 6, 7})
	}
	for _, got := range [][]int{{0, 1, 2, 3, 4, 5, 6, 7}, {0, 1, 2, 3, 4, 5, 7, 6}, {7, 6, 5, 4, 3, 2, 1, 0}} {
		checkObject(t, wants, got)
	}
}

func TestWrongTotals(t *testing.T) {
	for name, wants := range map[string][][]int{
		"an empty list":    {{0, 1}, {}},
		"one too few":      {{0, 1}, {1}},
		"one too many":     {{0, 1}, {0, 1, 1}},
		"far too many":     {{0, 1}, make([]int, 5000)},
		"one twice":        {{0, 1}, {1, 1}},
		"one below":        {{0, 1}, {-1, 1}},
		"one above":        {{0, 2}, {0, 1}},
		"the least number": {{-1 << 63, 1}, {0, 1}},
		"no list":          {nil},
	} {
		if got, e := hall.Trade(wants); got != nil || e != api.ErrList {
			t.Error("Trade", name, got, e)
		}
		if group, e := hall.Object(wants, []int{0, 1}[:len(wants)]); group != nil || e != api.ErrList {
			t.Error("Object", name, group, e)
		}
	}
	wants := [][]int{{1, 0}, {0, 1}}
	for name, got := range map[string][]int{
		"nothing":      nil,
		"too few":      {0},
		"too many":     {0, 1, 0},
		"far too many": make([]int, 5000),
		"one twice":    {1, 1},
		"one without":  {0, -1},
		"one above":    {0, 2},
	} {
		if group, e := hall.Object(wants, got); group != nil || e != api.ErrList {
			t.Error("Object of", name, group, e)
		}
	}
}
