package seek

import (
	"slices"

	"unbent/api"
	"unbent/speech"
)

// Limits of games that are shrunk.
const (
	shrinkProfiles = 6
	shrinkWholes   = 12
)

// Shrink makes a game that has no good rule smaller, one thing at a time, as long as it has none; with the proof that it has none. ErrGame; ErrSize, if the game is too large; ErrRule, if it has a good rule.
func Shrink(g api.Game) (api.Game, api.Answer, api.Errno) {
	if len(speech.Profiles(g)) > shrinkProfiles || len(Wholes(g)) > shrinkWholes {
		return api.Game{}, api.Answer{}, api.ErrSize
	}
	a, e := Find(g)
	if e != api.OK {
		return api.Game{}, api.Answer{}, e
	}
	if a.Kind != api.None {
		return api.Game{}, api.Answer{}, api.ErrRule
	}
	s := shrinking{fixedGame(g), a}
	for again := true; again; again = s.out() {
		s.needs()
		s.kinds()
	}
	return s.game, s.proof, api.OK
}

// shrinking is a game that has no good rule, with the proof. What could not go without a good rule coming up cannot go later on either, as long as only needs and kinds go: of the rule the part for the kinds that are left is good. So after one has gone, what stands ahead of it need not be tried again; after an outcome all is.
type shrinking struct {
	game  api.Game
	proof api.Answer
}

// goes leaves something out, if it can go.
func (s *shrinking) goes(without func(g api.Game) (api.Game, bool)) bool {
	less, ok := without(s.game)
	if !ok {
		return false
	}
	a, e := Find(less)
	if e != api.OK || a.Kind != api.None {
		return false
	}
	s.game, s.proof = less, a
	return true
}

// needs leaves out the needs that can go.
func (s *shrinking) needs() {
	for i := 0; i < len(s.game.Needs); {
		if !s.goes(func(g api.Game) (api.Game, bool) { return withoutNeed(g, i), true }) {
			i++
		}
	}
}

// kinds leaves out the kinds that can go.
func (s *shrinking) kinds() {
	for agent := range s.game.Agents {
		for kind := 0; kind < len(s.game.Agents[agent].Kinds); {
			if !s.goes(func(g api.Game) (api.Game, bool) { return withoutKind(g, agent, kind) }) {
				kind++
			}
		}
	}
}

// out leaves out the first outcome that can go.
func (s *shrinking) out() bool {
	for o := range s.game.Outs {
		if s.goes(func(g api.Game) (api.Game, bool) { return withoutOut(g, o) }) {
			return true
		}
	}
	return false
}

// withoutNeed is a game without a need.
func withoutNeed(g api.Game, i int) api.Game {
	out := fixedGame(g)
	out.Needs = slices.Delete(out.Needs, i, i+1)
	return out
}

// withoutKind is a game without a kind of an agent that has another one.
func withoutKind(g api.Game, agent, kind int) (api.Game, bool) {
	out := fixedGame(g)
	a := &out.Agents[agent]
	if len(a.Kinds) < 2 {
		return api.Game{}, false
	}
	a.Kinds = slices.Delete(a.Kinds, kind, kind+1)
	return out, true
}

// withoutOut is a game without an outcome, if it has another one and this one is swapped with none.
func withoutOut(g api.Game, o int) (api.Game, bool) {
	out := fixedGame(g)
	if len(g.Outs) < 2 {
		return api.Game{}, false
	}
	out.Outs = slices.Delete(out.Outs, o, o+1)
	for _, a := range out.Agents {
		for k := range a.Kinds {
			a.Kinds[k].Worth = slices.Delete(a.Kinds[k].Worth, o, o+1)
		}
	}
	needs := out.Needs
	out.Needs = nil
	for _, n := range needs {
		switch of := needOf(n).(type) {
		case envy:
			if of.swap[o] != o {
				return api.Game{}, false
			}
		case order:
			if slices.Equal(of.outs, []int{o}) {
				continue
			}
		}
		n.Outs, n.Swap = dropped(n.Outs, o), dropped(n.Swap, o)
		out.Needs = append(out.Needs, n)
	}
	return out, true
}

// dropped is a list of outcomes without one, the later ones moved up.
func dropped(l []int, o int) []int {
	var out []int
	for _, at := range l {
		switch {
		case at < o:
			out = append(out, at)
		case at > o:
			out = append(out, at-1)
		}
	}
	return out
}
