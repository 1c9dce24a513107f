package speech_test

import (
	"math/rand"
	"slices"
	"testing"

	"unbent/api"
	"unbent/frac"
	"unbent/speech"
)

// The order of the chapter's own example.
func TestProfilesInOrder(t *testing.T) {
	g := game(t, every)
	wanted := [][]int{{0, 0}, {0, 1}, {0, 2}, {1, 0}, {1, 1}, {1, 2}}
	if !slices.EqualFunc(speech.Profiles(g), wanted, slices.Equal) {
		t.Error("Profiles", speech.Profiles(g))
	}
}

// P3.3: Profiles are all lists of kinds' places, each once, in order; Index finds each; Put of an agent's kind is a profile again.
func TestCounting(t *testing.T) {
	r := rand.New(rand.NewSource(36))
	for range 200 {
		g := drawGame(r)
		all := speech.Profiles(g)
		n := 1
		for _, a := range g.Agents {
			n *= len(a.Kinds)
		}
		if len(all) != n {
			t.Fatal(len(all), "profiles, not", n)
		}
		for i, profile := range all {
			if i > 0 && slices.Compare(all[i-1], profile) >= 0 {
				t.Fatal("not in order", all)
			}
			if speech.Index(g, profile) != i {
				t.Fatal("Index of", profile, "is", speech.Index(g, profile))
			}
			for a, agent := range g.Agents {
				for kind := range agent.Kinds {
					put := speech.Put(profile, a, kind)
					at := speech.Index(g, put)
					if at < 0 || !slices.Equal(all[at], put) || put[a] != kind {
						t.Fatal("Put", profile, a, kind, put)
					}
				}
			}
		}
	}
}

// Lists that are no profiles.
func TestNoProfile(t *testing.T) {
	g := game(t, every)
	for _, profile := range [][]int{nil, {}, {0}, {0, 0, 0}, {2, 0}, {0, 3}, {-1, 0}, {0, -1}, {-1 << 63, 1<<63 - 1}} {
		if speech.Index(g, profile) != -1 {
			t.Error("Index of", profile)
		}
		if !sameNumbers([]api.Frac{speech.Weight(g, profile)}, nums(0)) {
			t.Error("Weight of", profile)
		}
	}
}

func TestPut(t *testing.T) {
	profile := []int{3, 4, 5}
	for _, c := range []struct {
		agent, kind int
		wanted      []int
	}{
		{0, 7, []int{7, 4, 5}},
		{2, -7, []int{3, 4, -7}},
		{3, 7, []int{3, 4, 5}},
		{-1, 7, []int{3, 4, 5}},
		{-1 << 63, 7, []int{3, 4, 5}},
		{1<<63 - 1, 7, []int{3, 4, 5}},
	} {
		got := speech.Put(profile, c.agent, c.kind)
		if !slices.Equal(got, c.wanted) {
			t.Error("Put", c.agent, c.kind, got)
		}
		for i := range got {
			got[i] = 99
		}
		if !slices.Equal(profile, []int{3, 4, 5}) {
			t.Fatal("Put shares memory")
		}
	}
	if len(speech.Put(nil, 0, 1)) != 0 || len(speech.Put([]int{}, 0, 1)) != 0 {
		t.Error("Put of nothing")
	}
}

// P3.4: the weights of all profiles sum to the product over agents of the sums of their kinds' weights; each is the product of its kinds'.
func TestWeight(t *testing.T) {
	r := rand.New(rand.NewSource(37))
	for range 100 {
		g := drawGame(r)
		var weights []api.Frac
		for _, profile := range speech.Profiles(g) {
			weight := num(1, 1)
			for a, kind := range profile {
				weight = frac.Mul(weight, g.Agents[a].Kinds[kind].Weight)
			}
			weights = append(weights, speech.Weight(g, profile))
			if !sameNumbers(weights[len(weights)-1:], []api.Frac{weight}) {
				t.Fatal("Weight of", profile)
			}
		}
		product := num(1, 1)
		for _, a := range g.Agents {
			sum := num(0, 1)
			for _, k := range a.Kinds {
				sum = frac.Add(sum, k.Weight)
			}
			product = frac.Mul(product, sum)
		}
		if frac.Cmp(frac.Sum(weights), product) != 0 {
			t.Fatal("the weights of", speech.Print(g))
		}
	}
}

// Weights that are too long to be multiplied one by one: only the product itself must not be too long.
func TestLongWeights(t *testing.T) {
	words := make([]uint32, 3000)
	words[0], words[2999] = 1, 1
	long := api.Frac{Num: words, Den: []uint32{1}}
	short := api.Frac{Num: []uint32{1}, Den: words}
	g := game(t, "game total\nouts a\nagent w\nkind k 1 0 0\nagent x\nkind k 1 0 0\nagent y\nkind k 1 0 0\nagent z\nkind k 5 0 0\n")
	g.Agents[0].Kinds[0].Weight = long
	g.Agents[1].Kinds[0].Weight = long
	g.Agents[2].Kinds[0].Weight = short
	profile := []int{0, 0, 0, 0}
	if !sameNumbers([]api.Frac{speech.Weight(g, profile)}, []api.Frac{frac.Mul(long, num(5, 1))}) {
		t.Error("a product that is short enough")
	}
	g.Agents[2].Kinds[0].Weight = num(1, 2)
	if !sameNumbers([]api.Frac{speech.Weight(g, profile)}, nums(0)) {
		t.Error("a product that is too long")
	}
	g.Agents[2].Kinds[0].Weight = wrong()
	g.Agents[1].Kinds[0].Weight = num(1, 2)
	if !sameNumbers([]api.Frac{speech.Weight(g, profile)}, nums(0)) {
		t.Error("a weight that is not right is 0")
	}
}
