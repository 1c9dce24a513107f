package seek_test

import (
	"math/rand"
	"strings"
	"testing"

	"unbent/api"
	"unbent/seek"
	"unbent/speech"
)

// lines is the text of a game, line by line, word by word.
func lines(g api.Game) [][]string {
	var out [][]string
	for line := range strings.Lines(speech.Print(g)) {
		out = append(out, strings.Fields(line))
	}
	return out
}

// read is the game of lines, if it is one.
func read(l [][]string) (api.Game, bool) {
	text := ""
	for _, words := range l {
		if len(words) > 0 {
			text += strings.Join(words, " ") + "\n"
		}
	}
	g, e, _ := speech.Parse(text)
	return g, e == api.OK
}

// cut is a line without a word.
func cut(words []string, at int) []string {
	return append(append([]string{}, words[:at]...), words[at+1:]...)
}

// withoutName is the text of a game without the outcome of a place; false, where it is swapped with another one.
func withoutName(l [][]string, at int) ([][]string, bool) {
	name := l[1][1+at]
	var out [][]string
	for _, words := range l {
		switch words[0] {
		case "outs":
			words = cut(words, 1+at)
		case "kind":
			words = cut(words, 4+at)
		case "envy":
			if words[3+at] != name {
				return nil, false
			}
			words = cut(words, 3+at)
		case "order":
			for i := 2; i < len(words); i++ {
				if words[i] == name {
					words = cut(words, i)
					break
				}
			}
			if len(words) == 2 {
				words = nil
			}
		}
		out = append(out, words)
	}
	return out, true
}

// smaller is the texts of all games that are smaller by one thing, in order: needs, kinds, outcomes.
func smaller(g api.Game) [][][]string {
	l := lines(g)
	var out [][][]string
	without := func(line int) [][]string {
		return append(append([][]string{}, l[:line]...), l[line+1:]...)
	}
	for i, words := range l {
		if !strings.Contains(" game outs agent kind ", " "+words[0]+" ") {
			out = append(out, without(i))
		}
	}
	for i, words := range l {
		if words[0] == "kind" && (l[i-1][0] == "kind" || i+1 < len(l) && l[i+1][0] == "kind") {
			out = append(out, without(i))
		}
	}
	for at := range g.Outs {
		if m, ok := withoutName(l, at); ok && len(g.Outs) > 1 {
			out = append(out, m)
		}
	}
	return out
}

// shrunk is a game of which nothing can go any more, by texts, from the beginning each time.
func shrunk(t *testing.T, g api.Game) api.Game {
	t.Helper()
	for _, l := range smaller(g) {
		h, ok := read(l)
		if !ok {
			t.Fatal("no game:", l)
		}
		if a, e := seek.Find(h); e == api.OK && a.Kind == api.None {
			return shrunk(t, h)
		}
	}
	return g
}

// drawNone is a game with many needs, which often has no good rule.
func drawNone(r *rand.Rand) api.Game {
	g := drawGame(r, size{6, 4, 2}, 2)
	for _, a := range g.Agents {
		for k := range a.Kinds {
			a.Kinds[k].Alone = num(r.Intn(3), 1)
		}
	}
	return g
}

// drawEnvy is a game of two who envy one another, where nobody can be paid and nothing is left to chance.
func drawEnvy(r *rand.Rand) api.Game {
	g := wide(3, 2, 1+r.Intn(2))
	g.Lots = false
	for _, a := range g.Agents {
		for k := range a.Kinds {
			a.Kinds[k].Alone = num(r.Intn(2), 1)
			a.Kinds[k].Worth = nums(r.Intn(3), r.Intn(3), r.Intn(3))
		}
	}
	swap := [][]int{{1, 0, 2}, {2, 1, 0}, {0, 2, 1}}[r.Intn(3)]
	outs := [][]int{{0}, {1}, {2}, {0, 1}, {1, 2}, {0, 2}}[r.Intn(6)]
	g.Needs = []api.Need{{Kind: api.NeedPart}, {Kind: api.NeedEnvy, Other: 1, Swap: swap}, {Kind: api.NeedOrder, Outs: outs}}
	r.Shuffle(3, func(i, j int) { g.Needs[i], g.Needs[j] = g.Needs[j], g.Needs[i] })
	return g
}

// P5.5: a game without a good rule is made smaller as the chapter says, and its answer is the one that is found.
func TestShrink(t *testing.T) {
	r := rand.New(rand.NewSource(12))
	count, outs, orders := 0, 0, 0
	for i := range 800 {
		g := drawNone(r)
		if i%2 == 0 {
			g = drawEnvy(r)
		}
		if len(seek.Wholes(g)) > 12 {
			continue
		}
		a := found(t, g)
		h, b, e := seek.Shrink(g)
		if a.Kind != api.None {
			if e != api.ErrRule || !noAnswer(b) || !speech.Same(h, api.Game{}) {
				t.Fatalf("%serror %d", speech.Print(g), e)
			}
			continue
		}
		count++
		wanted := shrunk(t, g)
		if e != api.OK || !speech.Same(h, wanted) {
			t.Fatalf("%serror %d, told\n%swanted\n%s", speech.Print(g), e, speech.Print(h), speech.Print(wanted))
		}
		if b.Kind != api.None || !seek.Judge(h, b) || !sameAnswer(b, found(t, h)) {
			t.Fatalf("%sanswer %v", speech.Print(h), b)
		}
		if len(h.Outs) < len(g.Outs) && len(h.Outs) > 1 {
			outs++
		}
		if len(h.Needs) > 1 {
			orders++
		}
	}
	if count < 100 || outs < 10 || orders < 10 {
		t.Error("games", count, outs, orders)
	}
}

// What goes with an outcome, and what cannot go.
func TestShrinkOuts(t *testing.T) {
	for _, c := range []struct{ text, wanted string }{
		// nobody is to have less than alone; of order's outcomes one goes, then the other one, and with it the need
		{"game lots total\nouts a b c\nagent x\nkind k 1 1 0 0 0\nkind l 1 1 5 5 5\nbudget\npart\norder x a c\n", "game lots total\nouts c\nagent x\nkind k 1 1 0\npart\n"},
		// low is to have a, high b, but the chance of a is not to fall: as long as z is there, part is needed; then order and envy alone
		{"game total\nouts z a b\nagent x\nkind low 1 1 0 2 1\nkind high 1 1 0 1 2\nagent y\nkind k 1 0 0 0 0\norder x z a\npart\nenvy x y z b a\n",
			"game total\nouts a b\nagent x\nkind low 1 1 2 1\nkind high 1 1 1 2\nagent y\nkind k 1 0 0 0\norder x a\nenvy x y b a\n"},
		// what is swapped with another outcome stays
		{"game lots total\nouts a b c\nagent x\nkind k 1 1 0 0 0\nagent y\nkind k 1 0 0 0 0\nenvy x y b a c\npart\n", "game lots total\nouts c\nagent x\nkind k 1 1 0\nagent y\nkind k 1 0 0\npart\n"},
	} {
		g := game(t, c.text)
		h, _, e := seek.Shrink(g)
		if c.wanted == "" {
			if e != api.ErrRule {
				t.Errorf("%serror %d", c.text, e)
			}
			continue
		}
		if e != api.OK || speech.Print(h) != c.wanted {
			t.Errorf("%serror %d, told\n%s", c.text, e, speech.Print(h))
		}
	}
}

// Games that are too large to be shrunk, and such as are not.
func TestShrinkErrors(t *testing.T) {
	part := api.Need{Kind: api.NeedPart}
	none := func(outs int, lots bool, kinds ...int) api.Game { // nobody has what it has alone
		g := wide(outs, kinds...)
		g.Lots, g.Needs = lots, []api.Need{part}
		for _, a := range g.Agents {
			for k := range a.Kinds {
				a.Kinds[k].Alone = num(1, 1)
			}
		}
		return g
	}
	some := func(g api.Game) api.Game {
		g.Needs = nil
		return g
	}
	full := needy(none(2, true, 3, 2, 1, 1), []int{api.NeedPart, api.NeedBudget, api.NeedEven, api.NeedBound}, 6, 2)
	full.Aim = api.AimWorst
	for i, c := range []struct {
		g    api.Game
		told api.Errno
	}{
		{none(6, true, 2, 3), api.OK},      // 6 profiles
		{none(2, true, 2, 4), api.ErrSize}, // 8
		{none(2, true, 3, 3), api.ErrSize}, // 9
		{none(2, false, 3, 2), api.OK},     // 12 whole variables
		{none(6, false, 2), api.OK},        // 12
		{none(5, false, 3), api.ErrSize},   // 15
		{none(4, false, 4), api.ErrSize},   // 16
		{some(none(2, true, 2, 2, 2)), api.ErrSize},
		{some(none(5, false, 3)), api.ErrSize},
		{some(none(6, true, 2, 3)), api.ErrRule},
		{some(none(6, false, 2)), api.ErrRule},
		{full, api.ErrSize}, // more than 200 rows
		{none(7, true, 2), api.ErrGame},
		{none(2, true, 4, 4, 4), api.ErrGame},
		{api.Game{}, api.ErrGame},
	} {
		h, a, e := seek.Shrink(c.g)
		if e != c.told || e != api.OK && (!noAnswer(a) || !speech.Same(h, api.Game{})) {
			t.Errorf("%d: Shrink %d, wanted %d", i, e, c.told)
		}
		if e == api.OK && (a.Kind != api.None || !seek.Judge(h, a) || len(speech.Profiles(h)) != 1 || len(h.Outs) != 1) {
			t.Errorf("%d: %s", i, speech.Print(h))
		}
	}
	if p, _ := seek.Model(full); len(p.Rows) <= api.SolveRows {
		t.Error("rows", len(p.Rows))
	}
}
