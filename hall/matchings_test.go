package hall_test

import (
	"math/rand"
	"slices"
	"testing"

	"unbent/api"
	"unbent/hall"
)

// market is who may be matched.
type market struct{ p, q [][]int }

func drawMarket(r *rand.Rand, proposers, receivers int) market {
	return market{drawLists(r, proposers, receivers), drawLists(r, receivers, proposers)}
}

// matchings is all matchings, willing or not.
func (m market) matchings() [][]int {
	some := []int{-1}
	for r := range m.q {
		some = append(some, r)
	}
	return slices.DeleteFunc(allChoices(len(m.p), some), func(match []int) bool {
		for i, r := range match {
			if r >= 0 && slices.Contains(match[:i], r) {
				return true
			}
		}
		return false
	})
}

// having is the proposer of a receiver, or -1.
func having(match []int, r int) int { return slices.Index(match, r) }

// blocker is what Block is to tell, by its words.
func (m market) blocker(match []int) (int, int) {
	for p, r := range match {
		if r >= 0 && (liking(m.p[p], r) < 0 || liking(m.q[r], p) < 0) {
			return p, -1
		}
		for other := range m.q {
			if r != other && liking(m.p[p], other) > liking(m.p[p], r) && liking(m.q[other], p) > liking(m.q[other], having(match, other)) {
				return p, other
			}
		}
	}
	return -1, -1
}

// stables is all stable matchings.
func (m market) stables() [][]int {
	return slices.DeleteFunc(m.matchings(), func(match []int) bool {
		p, _ := m.blocker(match)
		return p >= 0
	})
}

func (m market) accept(t *testing.T) []int {
	t.Helper()
	match, e := hall.Accept(m.p, m.q)
	if e != api.OK || len(match) != len(m.p) {
		t.Fatal("Accept", m, match, e)
	}
	return match
}

// checkBest checks that Accept tells a stable matching, at least as good for each proposer as every stable one, and that all stable ones match the same ones (P7.2).
func (m market) checkBest(t *testing.T) {
	t.Helper()
	told, all := m.accept(t), m.stables()
	if !slices.ContainsFunc(all, func(match []int) bool { return slices.Equal(match, told) }) {
		t.Fatal("not stable", m, told, all)
	}
	if p, r, e := hall.Block(m.p, m.q, told); p != -1 || r != -1 || e != api.OK {
		t.Fatal("Block of a stable one", m, told, p, r, e)
	}
	for _, match := range all {
		for p := range match {
			if liking(m.p[p], match[p]) > liking(m.p[p], told[p]) || (match[p] < 0) != (told[p] < 0) {
				t.Fatal("a proposer could have more", m, told, match)
			}
		}
		for r := range m.q {
			if (having(match, r) < 0) != (having(told, r) < 0) {
				t.Fatal("another receiver is matched", m, told, match)
			}
		}
	}
}

// checkLies checks that no proposer gets more by any of some lists (P7.3).
func (m market) checkLies(t *testing.T, lists [][]int) {
	t.Helper()
	told := m.accept(t)
	for p, truth := range m.p {
		for _, lie := range lists {
			match := market{with(m.p, p, lie), m.q}.accept(t)
			if liking(truth, match[p]) > liking(truth, told[p]) {
				t.Fatal("a lie gains", m, p, lie, told, match)
			}
		}
	}
}

// P7.1 to P7.3, of all two proposers and two receivers.
func TestPairs(t *testing.T) {
	lists := allLists(2)
	for _, all := range allChoices(4, lists) {
		m := market{all[:2], all[2:]}
		m.checkBest(t)
		m.checkLies(t, lists)
	}
}

// P7.1, P7.2.
func TestAccept(t *testing.T) {
	r := rand.New(rand.NewSource(11))
	several := 0
	for range 1500 {
		m := drawMarket(r, r.Intn(5), r.Intn(5))
		m.checkBest(t)
		if len(m.stables()) > 1 {
			several++
		}
	}
	for range 200 {
		m := market{drawTotals(r, 5), drawTotals(r, 5)}
		m.checkBest(t)
		if len(m.stables()) > 1 {
			several++
		}
	}
	if several < 100 {
		t.Error("several stable ones", several)
	}
}

// P7.3.
func TestAcceptLies(t *testing.T) {
	r := rand.New(rand.NewSource(12))
	for range 300 {
		n := 1 + r.Intn(4)
		drawMarket(r, 1+r.Intn(5), n).checkLies(t, allLists(n))
	}
	for range 200 {
		drawMarket(r, 8, 8).checkLies(t, drawLists(r, 30, 8))
	}
}

// inRounds is deferred acceptance in another way: all who are free propose at once.
func (m market) inRounds() []int {
	match, asked := slices.Repeat([]int{-1}, len(m.p)), make([]int, len(m.p))
	for again := true; again; {
		again = false
		for p := range m.p {
			if match[p] < 0 && asked[p] < len(m.p[p]) {
				match[p] = m.p[p][asked[p]]
				asked[p]++
				again = true
			}
		}
		for r, list := range m.q {
			best := -1
			for p := range m.p {
				if match[p] == r && liking(list, p) > liking(list, best) {
					best = p
				}
			}
			for p := range m.p {
				if match[p] == r && p != best {
					match[p] = -1
				}
			}
		}
	}
	return match
}

// As many as there may be.
func TestMany(t *testing.T) {
	r := rand.New(rand.NewSource(13))
	for range 2000 {
		m := drawMarket(r, 1+r.Intn(8), 1+r.Intn(8))
		if r.Intn(2) == 0 {
			m = market{drawTotals(r, 8), drawTotals(r, 8)}
		}
		match := m.accept(t)
		if p, q, e := hall.Block(m.p, m.q, match); p != -1 || q != -1 || e != api.OK || !slices.Equal(match, m.inRounds()) {
			t.Fatal(m, match, m.inRounds(), p, q, e)
		}
	}
}

// P7.1: Block, of any matching.
func TestBlock(t *testing.T) {
	r := rand.New(rand.NewSource(14))
	found := map[string]int{}
	for range 400 {
		m := drawMarket(r, r.Intn(4), r.Intn(4))
		for _, match := range m.matchings() {
			p, q, e := hall.Block(m.p, m.q, match)
			x, y := m.blocker(match)
			if p != x || q != y || e != api.OK {
				t.Fatal("Block", m, match, p, q, e, x, y)
			}
			switch {
			case p < 0:
				found["none"]++
			case q < 0:
				found["unwilling"]++
			default:
				found["pair"]++
			}
		}
	}
	if found["none"] < 100 || found["unwilling"] < 500 || found["pair"] < 500 {
		t.Error("found", found)
	}
}

// Cases of Block that are near one another.
func TestBlockOfFew(t *testing.T) {
	for name, c := range map[string]struct {
		m     market
		match []int
		p, r  int
	}{
		"nobody":                            {market{}, nil, -1, -1},
		"none on one side":                  {market{p: [][]int{nil, nil}}, []int{-1, -1}, -1, -1},
		"both alone":                        {market{[][]int{{0}}, [][]int{{0}}}, []int{-1}, 0, 0},
		"only one wants":                    {market{[][]int{{0}}, [][]int{nil}}, []int{-1}, -1, -1},
		"only the other one wants":          {market{[][]int{nil}, [][]int{{0}}}, []int{-1}, -1, -1},
		"matched, does not want":            {market{[][]int{nil}, [][]int{{0}}}, []int{0}, 0, -1},
		"matched, not wanted":               {market{[][]int{{0}}, [][]int{nil}}, []int{0}, 0, -1},
		"a pair ahead of who is unwilling":  {market{[][]int{{0, 1}, {0}}, [][]int{{0}, {0}}}, []int{1, 0}, 0, 0},
		"unwilling ahead of a pair":         {market{[][]int{{0}, {1}}, [][]int{{0}, {1}}}, []int{1, 0}, 0, -1},
		"a receiver's own one not wanted":   {market{[][]int{{0}, {0}}, [][]int{{0}}}, []int{-1, 0}, 0, 0},
		"all unwanted are alike":            {market{[][]int{{0}, {0}}, [][]int{nil}}, []int{-1, 0}, 1, -1},
		"the receiver's own one is ahead":   {market{[][]int{{0}, {0}}, [][]int{{1, 0}}}, []int{-1, 0}, -1, -1},
		"the first of two receivers":        {market{[][]int{{1, 0}}, [][]int{{0}, {0}}}, []int{-1}, 0, 0},
		"one that is ahead of what one has": {market{[][]int{{1, 0}}, [][]int{{0}, {0}}}, []int{0}, 0, 1},
	} {
		if p, r, e := hall.Block(c.m.p, c.m.q, c.match); p != c.p || r != c.r || e != api.OK {
			t.Error(name, p, r, e)
		}
	}
}

// Example 2: a receiver may gain by a lie.
func TestReceiversMayGain(t *testing.T) {
	m := market{[][]int{{0, 1}, {1, 0}}, [][]int{{1, 0}, {0, 1}}}
	if match := m.accept(t); !slices.Equal(match, []int{0, 1}) {
		t.Error("truly", match)
	}
	m.q[0] = []int{1}
	if match := m.accept(t); !slices.Equal(match, []int{1, 0}) {
		t.Error("by a lie", match)
	}
}

func TestWrongMatch(t *testing.T) {
	p, q := [][]int{{0, 1}, {0, 1}}, [][]int{{0, 1}, {0, 1}}
	for name, match := range map[string][]int{
		"none":               nil,
		"too few":            {0},
		"too many":           {0, 1, -1},
		"far too many":       make([]int, 5000),
		"below -1":           {-2, 0},
		"above":              {0, 2},
		"a receiver twice":   {1, 1},
		"the least number":   {-1 << 63, 0},
		"the greatest one":   {0, 1<<63 - 1},
		"twice, and too few": {0, 0, 1},
	} {
		if x, y, e := hall.Block(p, q, match); x != 0 || y != 0 || e != api.ErrList {
			t.Error(name, x, y, e)
		}
	}
	if _, _, e := hall.Block(p, q, []int{-1, -1}); e != api.OK {
		t.Error("all alone", e)
	}
	if _, _, e := hall.Block(nil, nil, []int{-1}); e != api.ErrList {
		t.Error("a match of nobody", e)
	}
}
