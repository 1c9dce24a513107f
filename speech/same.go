package speech

import (
	"slices"

	"unbent/api"
	"unbent/frac"
)

// Same reports whether two games are the same in every field.
func Same(a, b api.Game) bool {
	return a.Pay == b.Pay && a.Lots == b.Lots && a.Aim == b.Aim && slices.Equal(a.Outs, b.Outs) &&
		slices.EqualFunc(a.Agents, b.Agents, sameAgent) && slices.EqualFunc(a.Needs, b.Needs, sameNeed)
}

func sameAgent(a, b api.Agent) bool {
	return a.Name == b.Name && slices.EqualFunc(a.Kinds, b.Kinds, sameKind)
}

func sameKind(a, b api.Kind) bool {
	return a.Name == b.Name && sameNumber(a.Weight, b.Weight) && sameNumber(a.Alone, b.Alone) && slices.EqualFunc(a.Worth, b.Worth, sameNumber)
}

func sameNeed(a, b api.Need) bool {
	return a.Kind == b.Kind && a.Agent == b.Agent && a.Other == b.Other && sameNumber(a.Bound, b.Bound) && slices.Equal(a.Outs, b.Outs) && slices.Equal(a.Swap, b.Swap)
}

func sameNumber(a, b api.Frac) bool { return frac.Cmp(a, b) == 0 }
