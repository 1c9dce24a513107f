package speech

import (
	"unbent/api"
	"unbent/frac"
)

// Right is ErrSize if a game is too large, else ErrGame if it is not right, else OK.
func Right(g api.Game) api.Errno {
	switch {
	case tooLarge(g):
		return api.ErrSize
	case !rightAgents(g) || !rightNames(g.Outs) || g.Aim < api.AimTotal || g.Aim > api.AimPaid || !rightNeeds(g):
		return api.ErrGame
	}
	return api.OK
}

func tooLarge(g api.Game) bool {
	if len(g.Agents) > api.MaxAgents || len(g.Outs) > api.MaxOuts || len(g.Needs) > api.MaxNeeds {
		return true
	}
	for _, a := range g.Agents {
		if len(a.Kinds) > api.MaxKinds {
			return true
		}
	}
	return profilesOf(g.Agents) > api.MaxProfiles
}

// rightNames reports whether all are names, one at least, and no two the same.
func rightNames(names []string) bool {
	seen := map[string]bool{}
	for _, name := range names {
		if !isName(name) || seen[name] {
			return false
		}
		seen[name] = true
	}
	return len(names) > 0
}

func rightAgents(g api.Game) bool {
	var names []string
	for _, a := range g.Agents {
		if !rightKinds(a.Kinds, len(g.Outs)) {
			return false
		}
		names = append(names, a.Name)
	}
	return rightNames(names)
}

// rightKinds reports whether an agent's kinds are right in a game of so many outcomes.
func rightKinds(kinds []api.Kind, outs int) bool {
	var names []string
	for _, k := range kinds {
		if frac.Sign(k.Weight) < 0 || len(k.Worth) != outs {
			return false
		}
		names = append(names, k.Name)
	}
	return rightNames(names)
}

func rightNeeds(g api.Game) bool {
	for i, n := range g.Needs {
		if !rightNeed(g, n) || said(g.Needs[:i], n) {
			return false
		}
	}
	return true
}

// rightNeed reports whether a need's fields are such as its kind asks for.
func rightNeed(g api.Game, n api.Need) bool {
	rest, ok := n, false // rest: the need without the fields that its kind has
	switch n.Kind {
	case api.NeedPart, api.NeedBudget, api.NeedEven:
		ok = true
	case api.NeedBound:
		rest.Bound = api.Frac{}
		ok = frac.Sign(n.Bound) >= 0
	case api.NeedEnvy:
		rest.Agent, rest.Other, rest.Swap = 0, 0, nil
		ok = n.Agent >= 0 && n.Agent < n.Other && n.Other < len(g.Agents) && isSwap(n.Swap, len(g.Outs))
	case api.NeedOrder:
		rest.Agent, rest.Outs = 0, nil
		ok = n.Agent >= 0 && n.Agent < len(g.Agents) && len(n.Outs) > 0 && within(n.Outs, len(g.Outs)) && rising(n.Outs)
	}
	return ok && bare(rest)
}

// bare reports whether a need has nothing but its kind.
func bare(n api.Need) bool {
	return n.Agent == 0 && n.Other == 0 && frac.Sign(n.Bound) == 0 && len(n.Outs) == 0 && len(n.Swap) == 0
}

// said reports whether one of the needs leaves no place for n: of all kinds but order there is one, of envy one for each two agents.
func said(needs []api.Need, n api.Need) bool {
	for _, m := range needs {
		if m.Kind == n.Kind && n.Kind != api.NeedOrder && m.Agent == n.Agent && m.Other == n.Other {
			return true
		}
	}
	return false
}

// within reports whether all places are from 0 to below n.
func within(places []int, n int) bool {
	for _, p := range places {
		if p < 0 || p >= n {
			return false
		}
	}
	return true
}

func rising(places []int) bool {
	for i := 1; i < len(places); i++ {
		if places[i-1] >= places[i] {
			return false
		}
	}
	return true
}

// isSwap reports whether swap has a place for each of n, and taken twice leads back to each.
func isSwap(swap []int, n int) bool {
	if len(swap) != n || !within(swap, n) {
		return false
	}
	for o, to := range swap {
		if swap[to] != o {
			return false
		}
	}
	return true
}

// fits reports whether a rule fits a right game.
func fits(g api.Game, r api.Rule) bool {
	if len(r.Cells) != profilesOf(g.Agents) {
		return false
	}
	for _, c := range r.Cells {
		if !cellFits(g, c) {
			return false
		}
	}
	return true
}

// cellFits reports whether a cell fits a right game.
func cellFits(g api.Game, c api.Cell) bool {
	one, _ := frac.Make(1, 1)
	if len(c.Lot) != len(g.Outs) || len(c.Pay) != len(g.Agents) || frac.Cmp(frac.Sum(c.Lot), one) != 0 {
		return false
	}
	sure := false
	for _, f := range c.Lot {
		if frac.Sign(f) < 0 {
			return false
		}
		sure = sure || frac.Cmp(f, one) == 0
	}
	for _, f := range c.Pay {
		if !g.Pay && frac.Sign(f) != 0 {
			return false
		}
	}
	return g.Lots || sure
}
