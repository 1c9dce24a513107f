package speech

import (
	"unbent/api"
	"unbent/frac"
)

// ruleText is what has been read of the text of a rule for a game.
type ruleText struct {
	game  api.Game
	kinds []map[string]int // of each agent, where each kind's name stands
	due   [][]int          // the profiles that have no cell yet
	begun bool             // the line of rule was read
	rule  api.Rule
}

func newRuleText(g api.Game) *ruleText {
	t := &ruleText{game: g, due: Profiles(g)}
	for _, a := range g.Agents {
		places := map[string]int{}
		for i, k := range a.Kinds {
			places[k.Name] = i
		}
		t.kinds = append(t.kinds, places)
	}
	return t
}

// read reads one more line; it panics with the error of one that is wrong.
func (t *ruleText) read(words []string) {
	head, rest := words[0], words[1:]
	demand(head == "rule" || head == "cell", api.ErrWord)
	demand((head == "cell") == t.begun, api.ErrOrder)
	if !t.begun {
		demand(len(rest) == 0, api.ErrCount)
		t.begun = true
		return
	}
	t.readCell(rest)
}

// whole reports whether the text may end behind what has been read.
func (t *ruleText) whole() bool { return t.begun && len(t.due) == 0 }

func (t *ruleText) readCell(words []string) {
	agents, outs := len(t.game.Agents), len(t.game.Outs)
	payments := 0
	if t.game.Pay {
		payments = agents
	}
	demand(len(t.due) > 0, api.ErrCount)
	demand(len(words) == agents+outs+payments, api.ErrCount)
	for a, word := range words[:agents] {
		demand(placeOf(t.kinds[a], word) == t.due[0][a], api.ErrOrder)
	}
	c := api.Cell{Lot: each(words[agents:agents+outs], number)}
	c.Pay = each(words[agents+outs:], number)
	if !t.game.Pay {
		c.Pay = nothings(agents)
	}
	demand(cellFits(t.game, c), api.ErrRule)
	t.due = t.due[1:]
	t.rule.Cells = append(t.rule.Cells, c)
}

// nothings is so many numbers that are 0.
func nothings(n int) []api.Frac {
	out := make([]api.Frac, n)
	for i := range out {
		out[i] = frac.Fix(api.Frac{})
	}
	return out
}

// ruleLines is the words of the lines of a rule that fits a right game.
func ruleLines(g api.Game, r api.Rule) [][]string {
	out := [][]string{{"rule"}}
	for i, profile := range Profiles(g) {
		words := []string{"cell"}
		for a, kind := range profile {
			words = append(words, g.Agents[a].Kinds[kind].Name)
		}
		words = append(words, each(r.Cells[i].Lot, frac.Print)...)
		if g.Pay {
			words = append(words, each(r.Cells[i].Pay, frac.Print)...)
		}
		out = append(out, words)
	}
	return out
}
