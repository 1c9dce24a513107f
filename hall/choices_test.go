package hall_test

import (
	"math/big"
	"math/rand"
	"slices"
	"testing"

	"unbent/api"
	"unbent/hall"
)

func serial(t *testing.T, order []int, wants [][]int, things int) []int {
	t.Helper()
	got, e := hall.Serial(order, wants, things)
	if e != api.OK || len(got) != len(wants) {
		t.Fatal("Serial", order, wants, things, got, e)
	}
	return got
}

// inTurn is what each takes, by the chapter's words.
func inTurn(order []int, wants [][]int) []int {
	got := slices.Repeat([]int{-1}, len(wants))
	taken := map[int]bool{}
	for _, agent := range order {
		for _, thing := range wants[agent] {
			if !taken[thing] && got[agent] < 0 {
				got[agent] = thing
				taken[thing] = true
			}
		}
	}
	return got
}

// P7.1: Serial.
func TestSerial(t *testing.T) {
	r := rand.New(rand.NewSource(31))
	for range 3000 {
		agents, things := r.Intn(9), r.Intn(9)
		order, wants := r.Perm(agents), drawLists(r, agents, things)
		if got := serial(t, order, wants, things); !slices.Equal(got, inTurn(order, wants)) {
			t.Fatal("Serial", order, wants, got, inTurn(order, wants))
		}
	}
}

// P7.5: nobody gains by a lie in Serial.
func TestSerialLies(t *testing.T) {
	r := rand.New(rand.NewSource(32))
	lists := allLists(4)
	for range 300 {
		agents := 1 + r.Intn(6)
		order, wants := r.Perm(agents), drawLists(r, agents, 4)
		told := serial(t, order, wants, 4)
		for agent, truth := range wants {
			for _, lie := range lists {
				if got := serial(t, order, with(wants, agent, lie), 4); liking(truth, got[agent]) > liking(truth, told[agent]) {
					t.Fatal("a lie gains", order, wants, agent, lie, told, got)
				}
			}
		}
	}
}

// P7.5: nobody could be better off without one that is worse off.
func TestSerialLeavesNothing(t *testing.T) {
	r := rand.New(rand.NewSource(33))
	for range 400 {
		agents, things := r.Intn(5), r.Intn(5)
		m := market{drawLists(r, agents, things), make([][]int, things)}
		order := r.Perm(agents)
		told := serial(t, order, m.p, things)
		for _, other := range m.matchings() {
			better, worse := 0, 0
			for agent, list := range m.p {
				switch change := liking(list, other[agent]) - liking(list, told[agent]); {
				case change > 0:
					better++
				case change < 0:
					worse++
				}
			}
			if better > 0 && worse == 0 {
				t.Fatal("some could have more", order, m.p, told, other)
			}
		}
	}
}

// chancesOf is the chances in a drawn order, by the chapter's words: each order comes with the chance of one by their number.
func chancesOf(wants [][]int, things int) [][]*big.Rat {
	out := make([][]*big.Rat, len(wants))
	for agent := range out {
		for range things {
			out[agent] = append(out[agent], new(big.Rat))
		}
	}
	all := allOrders(len(wants))
	for _, order := range all {
		for agent, thing := range inTurn(order, wants) {
			if thing >= 0 {
				out[agent][thing] = plus(out[agent][thing], rat(1, int64(len(all))))
			}
		}
	}
	return out
}

func drawn(t *testing.T, wants [][]int, things int) [][]api.Frac {
	t.Helper()
	out, e := hall.Drawn(wants, things)
	if e != api.OK || len(out) != len(wants) {
		t.Fatal("Drawn", wants, things, out, e)
	}
	return out
}

// P7.1: Drawn.
func TestDrawn(t *testing.T) {
	r := rand.New(rand.NewSource(34))
	for i := range 300 {
		agents, things := r.Intn(5), r.Intn(9)
		if i < 10 {
			agents = 5 + i%2
		}
		wants := drawLists(r, agents, things)
		if got := drawn(t, wants, things); !slices.EqualFunc(got, chancesOf(wants, things), areAll) {
			t.Fatal("Drawn", wants, things, got, chancesOf(wants, things))
		}
	}
}

// behind is, for each k, the chance of the first k things of a list together.
func behind(list []int, chances []api.Frac) []*big.Rat {
	out := []*big.Rat{new(big.Rat)}
	for k, thing := range list {
		out = append(out, plus(out[k], value(chances[thing])))
	}
	return out
}

// P7.5: in Drawn by a lie no agent gets the first k things of its list with a greater chance together, whatever the others say, that is of all lists of all.
func TestDrawnLies(t *testing.T) {
	lists := allLists(2)
	for _, wants := range allChoices(3, lists) {
		checkDrawnLies(t, wants, 2, lists)
	}
	r := rand.New(rand.NewSource(35))
	three, four := allLists(3), allLists(4)
	for range 40 {
		checkDrawnLies(t, drawLists(r, 1+r.Intn(4), 3), 3, three)
		checkDrawnLies(t, drawLists(r, 3, 4), 4, four)
	}
	for range 5 {
		checkDrawnLies(t, drawLists(r, 6, 8), 8, drawLists(r, 5, 8))
	}
}

func checkDrawnLies(t *testing.T, wants [][]int, things int, lists [][]int) {
	t.Helper()
	told := drawn(t, wants, things)
	for agent, truth := range wants {
		mine := behind(truth, told[agent])
		for _, lie := range lists {
			got := drawn(t, with(wants, agent, lie), things)
			for k, chance := range behind(truth, got[agent]) {
				if chance.Cmp(mine[k]) > 0 {
					t.Fatal("a lie gains", wants, agent, lie, k)
				}
			}
		}
	}
}

// Nobody, and no things.
func TestChoicesOfNone(t *testing.T) {
	if got, e := hall.Serial(nil, nil, 8); len(got) != 0 || e != api.OK {
		t.Error("nobody", got, e)
	}
	if got := serial(t, []int{1, 0}, [][]int{nil, nil}, 0); !slices.Equal(got, []int{-1, -1}) {
		t.Error("no things", got)
	}
	if m, e := hall.Drawn(nil, 8); len(m) != 0 || e != api.OK {
		t.Error("Drawn of nobody", m, e)
	}
	if m := drawn(t, [][]int{nil, nil}, 0); len(m[0]) != 0 || len(m[1]) != 0 {
		t.Error("Drawn of no things", m)
	}
	if m := drawn(t, [][]int{nil}, 2); !areRightly(m[0], nums(0, 0)) {
		t.Error("Drawn of one who wants nothing", m)
	}
}

func TestWrongChoices(t *testing.T) {
	for name, wants := range map[string][][]int{
		"one twice":        {{0, 1}, {1, 1}},
		"one below":        {{0, 1}, {-1}},
		"one above":        {{0, 2}, {0, 1}},
		"far too many":     {{0, 1}, make([]int, 5000)},
		"the least number": {{-1 << 63}, {0, 1}},
	} {
		if got, e := hall.Serial([]int{0, 1}, wants, 2); got != nil || e != api.ErrList {
			t.Error("Serial", name, got, e)
		}
		if m, e := hall.Drawn(wants, 2); m != nil || e != api.ErrList {
			t.Error("Drawn", name, m, e)
		}
	}
	wants := [][]int{{1, 0}, {0}}
	for name, order := range map[string][]int{
		"nothing":      nil,
		"too few":      {0},
		"too many":     {0, 1, 0},
		"far too many": make([]int, 5000),
		"one twice":    {1, 1},
		"one below":    {0, -1},
		"one above":    {0, 2},
	} {
		if got, e := hall.Serial(order, wants, 2); got != nil || e != api.ErrList {
			t.Error("an order of", name, got, e)
		}
	}
	if got, e := hall.Serial([]int{0}, nil, 0); got != nil || e != api.ErrList {
		t.Error("an order of one more", got, e)
	}
}
