package rule_test

import (
	"math/rand"
	"testing"

	"unbent/api"
	"unbent/frac"
	"unbent/rule"
	"unbent/speech"
)

// Each need where it is just met, and where it is not.
func TestNeeds(t *testing.T) {
	const one = "game pay lots total\nouts a b\nagent x\nkind k 1 1/2 1 0\nkind l 1 -1 0 2\n"
	const two = "game pay lots total\nouts a b\nagent x\nkind k 1 0 4 0\nagent y\nkind k 1 0 0 1\n"
	for _, c := range []struct {
		game, rule string
		at         int
	}{
		{one, "cell k 1 0 9\ncell l 1 0 -9\n", -1},
		{one + "part\n", "cell k 1 0 1/2\ncell l 1 0 1\n", -1},
		{one + "part\n", "cell k 1 0 3/5\ncell l 1 0 1\n", 0},
		{one + "part\n", "cell k 1/2 1/2 0\ncell l 1 0 11/10\n", 0},
		{one + "budget\n", "cell k 1 0 0\ncell l 1 0 5\n", -1},
		{one + "budget\n", "cell k 1 0 0\ncell l 1 0 -1/7\n", 0},
		{one + "even\n", "cell k 1 0 0\ncell l 0 1 0\n", -1},
		{one + "even\n", "cell k 1 0 0\ncell l 0 1 1/7\n", 0},
		{one + "even\n", "cell k 1 0 -1/7\ncell l 0 1 0\n", 0},
		{one + "bound 3/2\n", "cell k 1 0 3/2\ncell l 0 1 -3/2\n", -1},
		{one + "bound 3/2\n", "cell k 1 0 8/5\ncell l 0 1 0\n", 0},
		{one + "bound 3/2\n", "cell k 1 0 0\ncell l 0 1 -8/5\n", 0},
		{one + "bound 0\n", "cell k 1 0 0\ncell l 0 1 0\n", -1},
		{one + "order x a\n", "cell k 1/3 2/3 0\ncell l 1/3 2/3 0\n", -1},
		{one + "order x a\n", "cell k 1/3 2/3 0\ncell l 1/4 3/4 0\n", 0},
		{one + "order x a b\n", "cell k 1/3 2/3 0\ncell l 1/4 3/4 0\n", -1},
		{one + "budget\norder x b\norder x a\neven\n", "cell k 1/3 2/3 0\ncell l 1/4 3/4 0\n", 2},
		{two + "budget\n", "cell k k 1 0 -2 2\n", -1},
		{two + "even\n", "cell k k 1 0 -2 2\n", -1},
		{two + "bound 2\n", "cell k k 1 0 -2 3\n", 0},
		{two + "envy x y b a\n", "cell k k 1 0 2 -2\n", -1},
		{two + "envy x y b a\n", "cell k k 1 0 5/2 -2\n", 0},
		{two + "envy x y b a\n", "cell k k 1 0 0 -1\n", -1},
		{two + "envy x y b a\n", "cell k k 1 0 0 -1/2\n", 0},
		{two + "envy x y b a\n", "cell k k 1 0 0 -2\n", -1},
		{two + "envy x y b a\n", "cell k k 1 0 -1 1\n", 0},
		{two + "envy x y a b\n", "cell k k 1 0 1 1\n", -1},
		{two + "envy x y a b\n", "cell k k 1 0 1 2\n", 0},
	} {
		g := game(t, c.game)
		r := law(t, g, "rule\n"+c.rule)
		if at, ok := rule.Meets(g, r); at != c.at || ok != (c.at < 0) {
			t.Error(c.game, c.rule, "Meets", at, ok)
		}
	}
}

// Example 3 of the chapter.
func TestOrderOfSale(t *testing.T) {
	g := game(t, sale)
	if at, ok := rule.Meets(g, law(t, g, "rule\ncell low mid 0 0 1 0 1\ncell high mid 0 1 0 2 0\n")); at != -1 || !ok {
		t.Error("Meets", at, ok)
	}
	if at, ok := rule.Meets(g, law(t, g, "rule\ncell low mid 0 1 0 0 0\ncell high mid 0 0 1 0 0\n")); at != 2 || ok {
		t.Error("Meets", at, ok)
	}
}

// Order compares a kind with the next one alone, while the others are as they are.
func TestOrderOfThree(t *testing.T) {
	g := game(t, "game lots total\nouts a b\nagent x\nkind k 1 0 0 0\nkind l 1 0 0 0\nkind m 1 0 0 0\nagent y\nkind k 1 0 0 0\nkind l 1 0 0 0\norder x a\n")
	for _, c := range []struct {
		rule string
		ok   bool
	}{
		{"rule\ncell k k 0 1\ncell k l 1 0\ncell l k 0 1\ncell l l 1 0\ncell m k 0 1\ncell m l 1 0\n", true},
		{"rule\ncell k k 0 1\ncell k l 0 1\ncell l k 1 0\ncell l l 0 1\ncell m k 1/2 1/2\ncell m l 0 1\n", false},
		{"rule\ncell k k 0 1\ncell k l 1/2 1/2\ncell l k 0 1\ncell l l 1/3 2/3\ncell m k 0 1\ncell m l 1 0\n", false},
	} {
		if _, ok := rule.Meets(g, law(t, g, c.rule)); ok != c.ok {
			t.Error("Meets", c)
		}
	}
}

// P4.1: needs and aims are as the chapter says.
func TestNeedsByDefinition(t *testing.T) {
	r := rand.New(rand.NewSource(42))
	kinds := map[int]int{}
	for i := range 3000 {
		g := drawGame(r)
		law := drawRule(r, g)
		if i%2 == 1 {
			law = drawTruthful(r, g)
		}
		o := oracle{g, law}
		at, ok := rule.Meets(g, law)
		if wanted, meets := o.meets(); at != wanted || ok != meets {
			t.Fatal("Meets", at, ok, wanted, meets, speech.Print(g), speech.PrintRule(g, law))
		}
		if ok {
			kinds[0]++
		} else {
			kinds[g.Needs[at].Kind]++
		}
		if got := rule.Aim(g, law); !isRightly(got, told(o.aim())) {
			t.Fatal("Aim", frac.Print(got), o.aim(), speech.Print(g), speech.PrintRule(g, law))
		}
	}
	for kind := range 7 {
		if kinds[kind] < 30 {
			t.Error("too few of need", kind, kinds)
		}
	}
}

// The three aims of one rule; of the worst one also profiles without weight count.
func TestAims(t *testing.T) {
	g := game(t, "game pay lots total\nouts a b\nagent x\nkind k 1/3 0 6 0\nkind l 2/3 0 3 1\nkind m 0 0 -7 0\nagent y\nkind k 2 0 1 5\n")
	r := law(t, g, "rule\ncell k k 1 0 1 2\ncell l k 1/2 1/2 0 -1\ncell m k 1 0 1 0\n")
	for _, c := range []struct{ aim, p, q int }{
		{api.AimTotal, 2*7 + 4*5, 3}, // 2/3 times 6 + 1, 4/3 times 2 + 3
		{api.AimPaid, 2*3 - 4, 3},
		{api.AimWorst, -8, 1},
	} {
		g.Aim = c.aim
		if got := rule.Aim(g, r); !isRightly(got, num(c.p, c.q)) {
			t.Error("Aim", c, frac.Print(got))
		}
	}
}
