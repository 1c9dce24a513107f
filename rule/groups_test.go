package rule_test

import (
	"math/rand"
	"slices"
	"testing"

	"unbent/api"
	"unbent/rule"
	"unbent/speech"
)

func sameJoint(a, b api.Joint) bool {
	return slices.Equal(a.Group, b.Group) && slices.Equal(a.Told, b.Told) && slices.Equal(a.Profile, b.Profile)
}

// P4.1, P4.7: the joint lie that is told is the first one, better for each; that there is none is told where there is none.
func TestGroupByDefinition(t *testing.T) {
	r := rand.New(rand.NewSource(43))
	alone, sizes := 0, map[int]int{}
	for i := range 600 {
		g := drawGame(r)
		law := drawRule(r, g)
		if i%2 == 1 {
			law = drawTruthful(r, g)
		}
		o := oracle{g, law}
		got, ok := rule.Group(g, law)
		wanted, there := o.group()
		if ok != there || !sameJoint(got, wanted) || ok && !o.better(got) {
			t.Fatal("Group", got, ok, wanted, there, speech.Print(g), speech.PrintRule(g, law))
		}
		sizes[len(got.Group)]++
		if _, truth := rule.Truthful(g, law); truth && ok {
			alone++
		}
	}
	if sizes[0] < 50 || sizes[2] < 50 || alone < 10 {
		t.Error("groups that may gain, by size:", sizes, "where nobody does alone:", alone)
	}
}

// payGame is a game of agents who want nothing but to pay little, and the rule by which they pay what is said.
func payGame(agents, kinds int, pay func(said []int) []int) (api.Game, api.Rule) {
	g := api.Game{Outs: []string{"a"}, Pay: true, Aim: api.AimTotal}
	for a := range agents {
		agent := api.Agent{Name: string(rune('a' + a))}
		for k := range kinds {
			agent.Kinds = append(agent.Kinds, api.Kind{Name: string(rune('a' + k)), Weight: num(1, 1), Worth: nums(0)})
		}
		g.Agents = append(g.Agents, agent)
	}
	var r api.Rule
	for _, said := range speech.Profiles(g) {
		r.Cells = append(r.Cells, api.Cell{Lot: nums(1), Pay: nums(pay(said)...)})
	}
	return g, r
}

func checkGroup(t *testing.T, g api.Game, r api.Rule, wanted api.Joint) {
	t.Helper()
	if got, ok := rule.Group(g, r); !ok || !sameJoint(got, wanted) {
		t.Error("Group", got, ok, "wanted", wanted)
	}
}

// What an agent pays hangs on what others say: so nobody gains alone, and groups do that help one another.
func TestOrderOfGroups(t *testing.T) {
	// The second and the third one are a group of number 6, the first and the last one are one of number 9, who could gain at an earlier profile.
	g, r := payGame(4, 2, func(said []int) []int {
		return []int{1 - said[3], said[0] * (1 - said[2]), said[0] * (1 - said[1]), 1 - said[0]}
	})
	if _, ok := rule.Truthful(g, r); !ok {
		t.Error("somebody gains alone")
	}
	checkGroup(t, g, r, api.Joint{Group: []int{1, 2}, Told: []int{1, 1}, Profile: []int{1, 0, 0, 0}})

	// Each helps the next one of three, so that it takes all three.
	g, r = payGame(4, 2, func(said []int) []int { return []int{1 - said[1], 1 - said[2], 1 - said[0], 0} })
	checkGroup(t, g, r, api.Joint{Group: []int{0, 1, 2}, Told: []int{1, 1, 1}, Profile: []int{0, 0, 0, 0}})

	// All four.
	g, r = payGame(4, 2, func(said []int) []int { return []int{1 - said[1], 1 - said[2], 1 - said[3], 1 - said[0]} })
	checkGroup(t, g, r, api.Joint{Group: []int{0, 1, 2, 3}, Told: []int{1, 1, 1, 1}, Profile: []int{0, 0, 0, 0}})
}

// What members may say: the last one's changes fastest, and one of them may say the truth.
func TestOrderOfTold(t *testing.T) {
	only := func(pairs ...[2]int) func(said []int) []int {
		return func(said []int) []int {
			if slices.Contains(pairs, [2]int{said[0], said[1]}) {
				return []int{0, 0}
			}
			return []int{1, 1}
		}
	}
	g, r := payGame(2, 3, only([2]int{1, 2}, [2]int{2, 1}))
	checkGroup(t, g, r, api.Joint{Group: []int{0, 1}, Told: []int{1, 2}, Profile: []int{0, 0}})
	g, r = payGame(2, 3, only([2]int{0, 2}, [2]int{1, 0}))
	checkGroup(t, g, r, api.Joint{Group: []int{0, 1}, Told: []int{0, 2}, Profile: []int{0, 0}})
	g, r = payGame(2, 3, only())
	if j, ok := rule.Group(g, r); ok {
		t.Error("a group that does not gain", j)
	}
	// One member of two has more, the other one just as much.
	g, r = payGame(2, 3, func(said []int) []int { return []int{1 - said[1]/2, 0} })
	if j, ok := rule.Group(g, r); ok {
		t.Error("a group one of whom gains nothing", j)
	}
	// One agent is no group.
	g, r = payGame(1, 3, func(said []int) []int { return []int{said[0]} })
	if j, ok := rule.Group(g, r); ok {
		t.Error("a group of one", j)
	}
}
