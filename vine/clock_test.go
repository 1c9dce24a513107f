package vine_test

import (
	"slices"
	"testing"

	"unbent/api"
	"unbent/frac"
	"unbent/rule"
	"unbent/speech"
	"unbent/vine"
)

// P8.6: the games, as texts.
func TestClockGame(t *testing.T) {
	for _, c := range []struct {
		values []api.Frac
		n      int
		text   string
	}{
		{nums(5), 1, "game pay total\nouts nobody one\nagent one\nkind a 1 0 0 5\npart\n"},
		{nums(-1, 0), 2, "game pay total\nouts nobody one two\nagent one\nkind a 1 0 0 -1 0\nkind b 1 0 0 0 0\nagent two\nkind a 1 0 0 0 -1\nkind b 1 0 0 0 0\npart\n"},
		{[]api.Frac{num(1, 3), num(1, 2)}, 3, "game pay total\nouts nobody one two three\nagent one\nkind a 1 0 0 1/3 0 0\nkind b 1 0 0 1/2 0 0\n" +
			"agent two\nkind a 1 0 0 0 1/3 0\nkind b 1 0 0 0 1/2 0\nagent three\nkind a 1 0 0 0 0 1/3\nkind b 1 0 0 0 0 1/2\npart\n"},
		{nums(1, 2, 3, 4), 1, "game pay total\nouts nobody one\nagent one\nkind a 1 0 0 1\nkind b 1 0 0 2\nkind c 1 0 0 3\nkind d 1 0 0 4\npart\n"},
	} {
		g, v, e := vine.Clock(c.values, c.n)
		if e != api.OK || speech.Print(g) != c.text || vine.Right(g, v) != api.OK {
			t.Error(e, speech.Print(g), v)
		}
	}
}

// P8.6: trees by hand.
func TestClockTrees(t *testing.T) {
	_, v := clock(t, nums(7, 8, 9), 1)
	if !sameVine(v, vineOf(end(1, 7))) {
		t.Error("one bidder is asked nothing", v)
	}
	_, v = clock(t, nums(7), 3)
	if !sameVine(v, vineOf(end(1, 7, 0, 0))) {
		t.Error("of one value nothing is asked", v)
	}
	_, v = clock(t, nums(1, 2), 2)
	if !sameVine(v, vineOf(ask(1, []int{1}, 1, 4), ask(0, []int{1}, 2, 3), end(1, 2, 0), end(2, 0, 2), end(1, 1, 0))) {
		t.Error("two bidders of two values", v)
	}
	_, v = clock(t, nums(1, 2), 3)
	wanted := vineOf(ask(2, []int{1}, 1, 8), ask(1, []int{1}, 2, 5), ask(0, []int{1}, 3, 4), end(1, 2, 0, 0), end(2, 0, 2, 0), ask(0, []int{1}, 6, 7), end(1, 2, 0, 0), end(3, 0, 0, 2),
		ask(1, []int{1}, 9, 12), ask(0, []int{1}, 10, 11), end(1, 2, 0, 0), end(2, 0, 2, 0), end(1, 1, 0, 0))
	if !sameVine(v, wanted) {
		t.Error("three bidders of two values", v)
	}
	_, v = clock(t, nums(1, 2, 3), 2)
	wanted = vineOf(ask(1, []int{1, 2}, 1, 8), ask(0, []int{1, 2}, 2, 7), ask(1, []int{2}, 3, 6), ask(0, []int{2}, 4, 5), end(1, 3, 0), end(2, 0, 3), end(1, 2, 0), end(2, 0, 2), end(1, 1, 0))
	if !sameVine(v, wanted) {
		t.Error("two bidders of three values", v)
	}
}

// held is an auction as it is held for a profile: who was asked for which value, who has the thing, and the value that it pays.
func held(values, bidders int, profile []int) (asked [][2]int, winner, pays int) {
	in, yes := upTo(bidders), make([]int, bidders)
	for value := 1; value < values && len(in) > 1; value++ {
		for _, b := range slices.Backward(slices.Clone(in)) {
			if len(in) == 1 {
				break
			}
			asked = append(asked, [2]int{b, value})
			if profile[b] >= value {
				yes[b] = value
			} else {
				in = without(in, []int{b})
			}
		}
	}
	if len(in) > 1 {
		return asked, in[0], values - 1
	}
	return asked, in[0], yes[in[0]]
}

// shapes is all clocks that are not too great: how many values, and how many bidders.
func shapes() [][2]int {
	return [][2]int{{1, 1}, {2, 1}, {3, 1}, {4, 1}, {1, 2}, {2, 2}, {3, 2}, {4, 2}, {1, 3}, {2, 3}}
}

var rising = []api.Frac{num(-2, 3), num(0, 1), num(5, 2), num(11, 4)}

// P8.6: at each profile of each clock all is as in an auction that is held.
func TestClockIsHeld(t *testing.T) {
	for _, s := range shapes() {
		values, bidders := s[0], s[1]
		g, v := clock(t, rising[:values], bidders)
		for _, profile := range speech.Profiles(g) {
			asked, winner, pays := held(values, bidders, profile)
			at, path, e := vine.Play(g, v, profile)
			if e != api.OK || len(path) != len(asked)+1 {
				t.Fatal(s, profile, path, asked, e)
			}
			for i, a := range asked {
				if n := v.Nodes[path[i]]; n.Agent != a[0] || !slices.Equal(n.Part, upTo(values)[a[1]:]) {
					t.Error(s, profile, "asked", n, a)
				}
			}
			wanted := nums(make([]int, bidders)...)
			wanted[winner] = rising[pays]
			if n := v.Nodes[at]; n.Out != winner+1 || !areRightly(n.Pay, wanted) {
				t.Error(s, profile, "has", n, winner, pays)
			}
		}
	}
}

// size is how many nodes a node has below it, with it.
func size(v api.Vine, at int) int {
	if n := v.Nodes[at]; n.Agent >= 0 {
		return 1 + size(v, n.Yes) + size(v, n.No)
	}
	return 1
}

// P8.6: nodes are numbered as Grow numbers them; ends have no questions, and questions no ends.
func TestClockNumbers(t *testing.T) {
	for _, s := range shapes() {
		_, v := clock(t, rising[:s[0]], s[1])
		for at, n := range v.Nodes {
			if n.Agent == -1 && (n.Part != nil || n.Yes != 0 || n.No != 0 || len(n.Pay) != s[1]) {
				t.Error(s, "end", at, n)
			}
			if n.Agent >= 0 && (n.Yes != at+1 || n.No != at+1+size(v, at+1) || n.Out != 0 || n.Pay != nil) {
				t.Error(s, "question", at, n)
			}
		}
	}
}

// P8.8: the tree of a clock is obvious, and Grow finds one for its rule.
func TestClockIsObvious(t *testing.T) {
	for _, s := range shapes() {
		g, v := clock(t, rising[:s[0]], s[1])
		law := ruleOf(t, g, v)
		d, ok := vine.Obvious(g, v)
		_, truthful := rule.Truthful(g, law)
		w, _, found, e := vine.Grow(g, law)
		if !ok || !truthful || e != api.OK || !found || !sameRule(ruleOf(t, g, w), law) {
			t.Error(s, d, ok, truthful, found, e)
		}
		if _, ok := vine.Obvious(g, w); !ok {
			t.Error(s, "grown, but not obvious", w)
		}
	}
}

// P8.6: ErrVine comes first; nothing is told with an error.
func TestClockErrors(t *testing.T) {
	many := make([]int, 5000)
	for i := range many {
		many[i] = i
	}
	for i, c := range []struct {
		values []api.Frac
		n      int
		e      api.Errno
	}{
		{nil, 2, api.ErrVine},
		{[]api.Frac{}, 2, api.ErrVine},
		{nums(1, 2), 0, api.ErrVine},
		{nums(1, 2), -1, api.ErrVine},
		{nums(1, 2), 4, api.ErrVine},
		{nums(1, 2), -1 << 63, api.ErrVine},
		{nums(1, 2), 1<<63 - 1, api.ErrVine},
		{nums(1, 1), 1, api.ErrVine},
		{nums(2, 1), 1, api.ErrVine},
		{nums(1, 3, 2), 2, api.ErrVine},
		{nums(1, 2, 3, 4, 4), 2, api.ErrVine},
		{nums(1, 2, 3, 3), 3, api.ErrVine},
		{nums(many...), 4, api.ErrVine},
		{nums(many...), 1, api.ErrSize},
		{nums(1, 2, 3, 4, 5), 1, api.ErrSize},
		{nums(1, 2, 3, 4), 3, api.ErrSize},
		{nums(1, 2, 3), 3, api.ErrSize},
		{nums(1, 2, 3, 4), 2, api.OK},
		{nums(1, 2), 3, api.OK},
		{[]api.Frac{wrong(), num(1, 2)}, 2, api.OK},
		{[]api.Frac{num(-1, 2), wrong()}, 2, api.OK},
		{[]api.Frac{num(1, 2), wrong()}, 2, api.ErrVine},
		{[]api.Frac{wrong(), {}}, 2, api.ErrVine},
	} {
		g, v, e := vine.Clock(c.values, c.n)
		isNothing := g.Agents == nil && g.Outs == nil && g.Needs == nil && !g.Pay && g.Aim == 0 && v.Nodes == nil
		if e != c.e || e != api.OK && !isNothing {
			t.Error("case", i, e, g, v)
		}
	}
}

// Values that are not right are 0.
func TestClockFix(t *testing.T) {
	g, v := clock(t, []api.Frac{wrong(), num(1, 2)}, 2)
	h, w := clock(t, []api.Frac{num(0, 1), num(1, 2)}, 2)
	if !speech.Same(g, h) || !sameVine(v, w) || !frac.Right(g.Agents[0].Kinds[0].Worth[1]) {
		t.Error(g, v)
	}
}
