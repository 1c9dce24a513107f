package speech

import (
	"unbent/api"
	"unbent/frac"
)

// The first words of the lines of needs, at the places of the needs' kinds.
var needWords = [...]string{api.NeedPart: "part", api.NeedBudget: "budget", api.NeedEven: "even", api.NeedBound: "bound", api.NeedEnvy: "envy", api.NeedOrder: "order"}

// The words of the aims, at their places.
var aimWords = [...]string{api.AimTotal: "total", api.AimWorst: "worst", api.AimPaid: "paid"}

// gameText is what has been read of a game's text: the game, and where each name stands in it (of kinds those of the last agent).
type gameText struct {
	game                api.Game
	agents, kinds, outs map[string]int
}

func newGameText() *gameText {
	return &gameText{agents: map[string]int{}, kinds: map[string]int{}, outs: map[string]int{}}
}

// read reads one more line; it panics with the error of one that is wrong.
func (t *gameText) read(words []string) {
	head, rest := words[0], words[1:]
	demand(isHead(head), api.ErrWord)
	demand(t.due(head), api.ErrOrder)
	demand(t.room(head), api.ErrCount)
	demand(t.complete(head, len(rest)), api.ErrCount)
	switch head {
	case "game":
		t.readMarks(rest)
	case "outs":
		t.readOuts(rest)
	case "agent":
		t.readAgent(rest[0])
	case "kind":
		t.readKind(rest)
	default:
		t.readNeed(needOf(head), rest)
	}
}

// whole reports whether the text may end behind what has been read.
func (t *gameText) whole() bool {
	return len(t.game.Agents) > 0 && t.closed()
}

func isHead(word string) bool {
	switch word {
	case "game", "outs", "agent", "kind":
		return true
	}
	return needOf(word) != 0
}

// needOf is the kind of need whose lines begin with a word; 0, if none do.
func needOf(word string) int {
	for kind, w := range needWords {
		if w == word {
			return kind
		}
	}
	return 0
}

// aimOf is the aim that a word names; 0, if it names none.
func aimOf(word string) int {
	for aim, w := range aimWords {
		if w == word {
			return aim
		}
	}
	return 0
}

// due reports whether a line that begins with head may come next.
func (t *gameText) due(head string) bool {
	switch {
	case t.game.Aim == 0:
		return head == "game"
	case len(t.game.Outs) == 0:
		return head == "outs"
	case head == "agent":
		return len(t.game.Needs) == 0
	case head == "kind":
		return len(t.game.Needs) == 0 && len(t.game.Agents) > 0
	}
	return head != "game" && head != "outs"
}

// closed reports whether the last agent, if there is one, has a kind.
func (t *gameText) closed() bool {
	n := len(t.game.Agents)
	return n == 0 || len(t.game.Agents[n-1].Kinds) > 0
}

// room reports whether one line more of that kind is not one too many, or one too early.
func (t *gameText) room(head string) bool {
	switch head {
	case "game", "outs":
		return true
	case "agent":
		return t.closed() && len(t.game.Agents) < api.MaxAgents
	case "kind":
		return t.roomForKind()
	}
	return t.whole() && len(t.game.Needs) < api.MaxNeeds
}

// roomForKind reports whether the last agent may have a kind more.
func (t *gameText) roomForKind() bool {
	last := len(t.game.Agents) - 1
	kinds := len(t.game.Agents[last].Kinds) + 1
	return kinds <= api.MaxKinds && kinds*profilesOf(t.game.Agents[:last]) <= api.MaxProfiles
}

// complete reports whether so many words behind head are as many as there must be.
func (t *gameText) complete(head string, words int) bool {
	outs := len(t.game.Outs)
	switch head {
	case "game":
		return true // it has an error of its own
	case "outs":
		return words >= 1 && words <= api.MaxOuts
	case "agent", "bound":
		return words == 1
	case "kind":
		return words == 3+outs
	case "envy":
		return words == 2+outs
	case "order":
		return words >= 2
	}
	return words == 0
}

func (t *gameText) readMarks(words []string) {
	if len(words) > 0 && words[0] == "pay" {
		t.game.Pay, words = true, words[1:]
	}
	if len(words) > 0 && words[0] == "lots" {
		t.game.Lots, words = true, words[1:]
	}
	demand(len(words) == 1 && aimOf(words[0]) != 0, api.ErrWord)
	t.game.Aim = aimOf(words[0])
}

func (t *gameText) readOuts(words []string) {
	for _, word := range words {
		name := declare(t.outs, word)
		t.game.Outs = append(t.game.Outs, name)
	}
}

func (t *gameText) readAgent(word string) {
	name := declare(t.agents, word)
	t.game.Agents = append(t.game.Agents, api.Agent{Name: name})
	t.kinds = map[string]int{}
}

func (t *gameText) readKind(words []string) {
	k := api.Kind{Name: declare(t.kinds, words[0])}
	k.Weight = unsigned(words[1])
	k.Alone = number(words[2])
	k.Worth = each(words[3:], number)
	last := &t.game.Agents[len(t.game.Agents)-1]
	last.Kinds = append(last.Kinds, k)
}

func (t *gameText) readNeed(kind int, words []string) {
	n := api.Need{Kind: kind, Bound: frac.Fix(api.Frac{})}
	switch kind {
	case api.NeedBound:
		n.Bound = unsigned(words[0])
	case api.NeedEnvy:
		n.Agent = placeOf(t.agents, words[0])
		n.Other = placeOf(t.agents, words[1])
		n.Swap = placesOf(t.outs, words[2:])
	case api.NeedOrder:
		n.Agent = placeOf(t.agents, words[0])
		n.Outs = placesOf(t.outs, words[1:])
	}
	demand(!said(t.game.Needs, n), api.ErrTwice)
	demand(kind != api.NeedEnvy || n.Agent < n.Other, api.ErrOrder)
	demand(rising(n.Outs), api.ErrOrder)
	demand(kind != api.NeedEnvy || isSwap(n.Swap, len(t.game.Outs)), api.ErrGame)
	t.game.Needs = append(t.game.Needs, n)
}

// gameLines is the words of the lines of a right game.
func gameLines(g api.Game) [][]string {
	out := [][]string{marks(g), append([]string{"outs"}, g.Outs...)}
	for _, a := range g.Agents {
		out = append(out, []string{"agent", a.Name})
		for _, k := range a.Kinds {
			words := []string{"kind", k.Name, frac.Print(k.Weight), frac.Print(k.Alone)}
			out = append(out, append(words, each(k.Worth, frac.Print)...))
		}
	}
	for _, n := range g.Needs {
		out = append(out, needLine(g, n))
	}
	return out
}

// marks is the words of a game's first line.
func marks(g api.Game) []string {
	out := []string{"game"}
	if g.Pay {
		out = append(out, "pay")
	}
	if g.Lots {
		out = append(out, "lots")
	}
	return append(out, aimWords[g.Aim])
}

func needLine(g api.Game, n api.Need) []string {
	out := []string{needWords[n.Kind]}
	switch n.Kind {
	case api.NeedBound:
		out = append(out, frac.Print(n.Bound))
	case api.NeedEnvy:
		out = append(out, g.Agents[n.Agent].Name, g.Agents[n.Other].Name)
	case api.NeedOrder:
		out = append(out, g.Agents[n.Agent].Name)
	}
	for _, o := range n.Swap {
		out = append(out, g.Outs[o])
	}
	for _, o := range n.Outs {
		out = append(out, g.Outs[o])
	}
	return out
}
