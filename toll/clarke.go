package toll

import (
	"unbent/api"
	"unbent/frac"
)

const nobody = -1

// clarkeCell is what Clarke's rule gives at a profile.
func clarkeCell(g api.Game, profile []int) api.Cell {
	chosen := frac.Most(totals(g, profile, nobody))
	cell := api.Cell{Lot: sure(len(g.Outs), chosen)}
	for agent := range profile {
		others := totals(g, profile, agent)
		most := others[frac.Most(others)]
		cell.Pay = append(cell.Pay, frac.Sub(most, others[chosen]))
	}
	return cell
}

// totals is what each outcome is worth in all to the agents of their kinds at a profile, but for the agent left out.
func totals(g api.Game, profile []int, leftOut int) []api.Frac {
	var out []api.Frac
	for o := range g.Outs {
		var worths []api.Frac
		for agent, kind := range profile {
			if agent != leftOut {
				worths = append(worths, g.Agents[agent].Kinds[kind].Worth[o])
			}
		}
		out = append(out, frac.Sum(worths))
	}
	return out
}

// sure is the lottery in which one of so many outcomes comes out for sure.
func sure(outs, chosen int) []api.Frac {
	out := zeros(outs)
	out[chosen] = one()
	return out
}
