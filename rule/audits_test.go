package rule_test

import (
	"math/big"
	"math/rand"
	"slices"
	"testing"

	"unbent/api"
	"unbent/frac"
	"unbent/rule"
	"unbent/speech"
)

// Of the rule of the sale in which ann pays nothing, low ann would have gained 1 each time.
func TestAuditOfSale(t *testing.T) {
	g := game(t, sale)
	r := law(t, g, "rule\ncell low mid 0 0 1 0 1\ncell high mid 0 1 0 0 0\n")
	log := []api.Seen{{Profile: []int{0, 0}, Count: 3}, {Profile: []int{1, 0}, Count: 2}, {Profile: []int{0, 0}, Count: 1}}
	wanted := []api.Lie{{Agent: 0, Kind: 0, Told: 1, Gain: num(4, 1)}, noLie(0, 1), noLie(1, 0)}
	if got, e := rule.Audit(g, r, log); e != api.OK || !slices.EqualFunc(got, wanted, sameLie) {
		t.Error("Audit", got, e)
	}
	wanted[0] = noLie(0, 0)
	for _, log := range [][]api.Seen{nil, {}, {{Profile: []int{0, 0}}}, log[1:2]} {
		if got, e := rule.Audit(g, r, log); e != api.OK || !slices.EqualFunc(got, wanted, sameLie) {
			t.Error("Audit", log, got, e)
		}
	}
}

// A kind is told at all entries alike: a loss at one is taken from what is gained at others; of several kinds the best one is told, of equal ones the first.
func TestAuditSums(t *testing.T) {
	// The first agent pays 5, 4, 3 where the second one says its first kind, 0, 3, 2 where its second one, 1 always where its third one.
	table := [][]int{{5, 4, 3}, {0, 3, 2}, {1, 1, 1}}
	g, r := payGame(2, 3, func(said []int) []int { return []int{table[said[1]][said[0]], 0} })
	for i, c := range []struct {
		counts    [3]int // how often the first kind was seen beside each kind of the second agent
		told, sum int
	}{
		{[3]int{1, 0, 0}, 2, 2},
		{[3]int{2, 1, 7}, 2, 2},
		{[3]int{1, 1, 0}, -1, 0},
		{[3]int{0, 5, 0}, -1, 0},
		{[3]int{0, 0, 5}, -1, 0},
		{[3]int{9, 1, 0}, 2, 16},
	} {
		var log []api.Seen
		for other, n := range c.counts {
			log = append(log, api.Seen{Profile: []int{0, other}, Count: n})
		}
		wanted := api.Lie{Told: c.told, Gain: num(c.sum, 1)}
		got, e := rule.Audit(g, r, log)
		if e != api.OK || len(got) != 6 || !sameLie(got[0], wanted) {
			t.Error("Audit", i, got, e)
		}
		for j := 1; j < len(got); j++ {
			if !sameLie(got[j], noLie(j/3, j%3)) {
				t.Error("Audit", i, j, got[j])
			}
		}
	}
	g, r = payGame(1, 3, func(said []int) []int { return []int{min(said[0], 1)} })
	wanted := []api.Lie{noLie(0, 0), {Kind: 1, Told: 0, Gain: num(2, 1)}, {Kind: 2, Told: 0, Gain: num(3, 1)}}
	if got, _ := rule.Audit(g, r, []api.Seen{{Profile: []int{2}, Count: 3}, {Profile: []int{1}, Count: 2}}); !slices.EqualFunc(got, wanted, sameLie) {
		t.Error("Audit", got)
	}
	g, r = payGame(1, 3, func(said []int) []int { return []int{1 - min(said[0], 1)} })
	wanted = []api.Lie{{Kind: 0, Told: 1, Gain: num(1, 1)}, noLie(0, 1), noLie(0, 2)}
	if got, _ := rule.Audit(g, r, []api.Seen{{Profile: []int{0}, Count: 1}}); !slices.EqualFunc(got, wanted, sameLie) {
		t.Error("Audit of equal ones", got)
	}
}

// P4.1, P4.6: audits are as the chapter says; of a truthful rule none names anybody.
func TestAuditByDefinition(t *testing.T) {
	r := rand.New(rand.NewSource(47))
	lies := 0
	for i := range 600 {
		g := drawGame(r)
		law := drawRule(r, g)
		if i%2 == 1 {
			law = drawTruthful(r, g)
		}
		log := drawLog(r, g, 30)
		got, e := rule.Audit(g, law, log)
		if wanted := (oracle{g, law}).audit(log); e != api.OK || !slices.EqualFunc(got, wanted, sameLie) {
			t.Fatal("Audit", got, wanted, e, speech.Print(g), speech.PrintRule(g, law), log)
		}
		for _, lie := range got {
			if lie.Told >= 0 {
				lies++
			}
			if lie.Told >= 0 && i%2 == 1 {
				t.Fatal("an audit of a truthful rule tells", lie)
			}
		}
	}
	if lies < 200 {
		t.Error("lies that were told:", lies)
	}
}

// P4.6: of two logs one behind the other what one report would have gained is the sum of both. Of games in which each agent has two kinds at most there is but one such report.
func TestAuditsAdd(t *testing.T) {
	r := rand.New(rand.NewSource(48))
	for range 300 {
		g := drawGame(r)
		for a := range g.Agents {
			kinds := g.Agents[a].Kinds
			g.Agents[a].Kinds = kinds[:min(2, len(kinds))]
		}
		law := drawRule(r, g)
		one, two := drawLog(r, g, 9), drawLog(r, g, 9)
		o := oracle{g, law}
		both, e := rule.Audit(g, law, slices.Concat(one, two))
		if e != api.OK {
			t.Fatal("Audit", e)
		}
		for _, lie := range both {
			if len(g.Agents[lie.Agent].Kinds) < 2 {
				continue
			}
			sum := o.total(lie.Agent, lie.Kind, 1-lie.Kind, one)
			sum.Add(sum, o.total(lie.Agent, lie.Kind, 1-lie.Kind, two))
			if sum.Sign() <= 0 {
				sum = new(big.Rat)
			}
			if !isRightly(lie.Gain, told(sum)) || (lie.Told >= 0) != (sum.Sign() > 0) {
				t.Fatal("Audit of both", lie, sum)
			}
		}
		twice, _ := rule.Audit(g, law, slices.Concat(one, one))
		once, _ := rule.Audit(g, law, one)
		for i, lie := range once {
			if lie.Gain = frac.Mul(lie.Gain, num(2, 1)); !sameLie(lie, twice[i]) {
				t.Fatal("Audit of one log twice", lie, twice[i])
			}
		}
	}
}

// The errors of Audit, in their order, wherever the entry stands; great counts are no error.
func TestAuditErrors(t *testing.T) {
	g := game(t, sale)
	r := law(t, g, "rule\ncell low mid 0 0 1 0 1\ncell high mid 0 1 0 0 0\n")
	bad := g
	bad.Aim = 0
	fine := api.Seen{Profile: []int{0, 0}, Count: 1}
	for i, c := range []struct {
		g    api.Game
		r    api.Rule
		seen api.Seen
		e    api.Errno
	}{
		{g, r, fine, api.OK},
		{bad, api.Rule{}, api.Seen{}, api.ErrGame},
		{bad, r, fine, api.ErrGame},
		{g, api.Rule{}, fine, api.ErrRule},
		{g, r, api.Seen{}, api.ErrRule},
		{g, r, api.Seen{Profile: []int{0}, Count: 1}, api.ErrRule},
		{g, r, api.Seen{Profile: []int{0, 0, 0}, Count: 1}, api.ErrRule},
		{g, r, api.Seen{Profile: []int{2, 0}, Count: 1}, api.ErrRule},
		{g, r, api.Seen{Profile: []int{0, 1}, Count: 1}, api.ErrRule},
		{g, r, api.Seen{Profile: []int{-1, 0}, Count: 0}, api.ErrRule},
		{g, r, api.Seen{Profile: []int{0, 0}, Count: -1}, api.ErrRule},
		{g, r, api.Seen{Profile: []int{0, 0}, Count: -1 << 63}, api.ErrRule},
	} {
		for _, log := range [][]api.Seen{{c.seen}, {fine, c.seen}, {c.seen, fine}} {
			got, e := rule.Audit(c.g, c.r, log)
			if e != c.e || e != api.OK && got != nil || e == api.OK && len(got) != 3 {
				t.Error("Audit", i, got, e)
			}
		}
	}
	most := api.Seen{Profile: []int{0, 0}, Count: 1<<63 - 1}
	wanted, _ := frac.Parse("18446744073709551614")
	if got, e := rule.Audit(g, r, []api.Seen{most, most}); e != api.OK || !isRightly(got[0].Gain, wanted) {
		t.Error("Audit of great counts", got, e)
	}
}
