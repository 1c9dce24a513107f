package toll

import (
	"slices"

	"unbent/api"
	"unbent/frac"
)

// rightMenu reports whether a menu has kinds and outcomes, not too many, and for each kind the worths of the outcomes and a lottery.
func rightMenu(m api.Menu) bool {
	kinds := len(m.Worth)
	if kinds == 0 || kinds > api.MaxParts || len(m.Lots) != kinds {
		return false
	}
	outs := len(m.Worth[0])
	if outs == 0 || outs > api.MaxOuts {
		return false
	}
	for k, lot := range m.Lots {
		if len(m.Worth[k]) != outs || len(lot) != outs || !isLottery(lot) {
			return false
		}
	}
	return true
}

func isLottery(lot []api.Frac) bool {
	below := func(f api.Frac) bool { return frac.Sign(f) < 0 }
	return !slices.ContainsFunc(lot, below) && frac.Cmp(frac.Sum(lot), one()) == 0
}

func isKind(m api.Menu, kind int) bool { return kind >= 0 && kind < len(m.Worth) }

// has is what the lottery of a report is worth to a kind.
func has(m api.Menu, kind, told int) api.Frac { return frac.Dot(m.Worth[kind], m.Lots[told]) }

// losses is what each kind loses by each report, payments not counted: if payments are honest, it pays at most that much more than the kind that it could say it is.
func losses(m api.Menu) [][]api.Frac {
	var out [][]api.Frac
	for kind := range m.Worth {
		truth := has(m, kind, kind)
		var row []api.Frac
		for told := range m.Worth {
			row = append(row, frac.Sub(truth, has(m, kind, told)))
		}
		out = append(out, row)
	}
	return out
}

// greatest is the greatest honest payments with 0 for the kind first; or, if there are none, a cycle that gains. Each payment begins at what first's allows it, and goes down as long as another one's allows less. Payments that still go down after as many rounds as there are kinds always will: some kinds allow one another ever less.
func greatest(loss [][]api.Frac, first int) (pays []api.Frac, cycle []int) {
	allowing := make([]int, len(loss)) // for each kind the one whose payment allows no more
	for kind := range loss {
		pays = append(pays, loss[kind][first])
		allowing[kind] = first
	}
	lowered := first
	for range loss {
		lowered = lower(loss, pays, allowing)
		if lowered < 0 {
			return pays, nil
		}
	}
	return nil, cycleBehind(allowing, lowered)
}

// lower takes each payment down to what the others allow; it is the last kind whose payment went down, -1 if none did.
func lower(loss [][]api.Frac, pays []api.Frac, allowing []int) int {
	lowered := -1
	for kind, row := range loss {
		for told := range row {
			most := frac.Add(pays[told], row[told])
			if frac.Cmp(most, pays[kind]) < 0 {
				pays[kind], allowing[kind] = most, told
				lowered = kind
			}
		}
	}
	return lowered
}

// cycleBehind is the cycle to which next leads from a kind, the least kind first.
func cycleBehind(next []int, kind int) []int {
	for range next {
		kind = next[kind]
	}
	out := []int{kind}
	for k := next[kind]; k != kind; k = next[k] {
		out = append(out, k)
	}
	least := slices.Index(out, slices.Min(out))
	return slices.Concat(out[least:], out[:least])
}
