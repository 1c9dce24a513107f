package rule_test

import (
	"math/rand"
	"testing"

	"unbent/api"
	"unbent/frac"
	"unbent/rule"
	"unbent/speech"
)

// mixedBy is the cells of w times a and 1 - w times b.
func mixedBy(a, b api.Rule, w api.Frac) []api.Cell {
	part := func(x, y []api.Frac) []api.Frac {
		var out []api.Frac
		for i := range x {
			out = append(out, frac.Add(frac.Mul(w, x[i]), frac.Mul(frac.Sub(num(1, 1), w), y[i])))
		}
		return out
	}
	var out []api.Cell
	for i := range a.Cells {
		out = append(out, api.Cell{Lot: part(a.Cells[i].Lot, b.Cells[i].Lot), Pay: part(a.Cells[i].Pay, b.Cells[i].Pay)})
	}
	return out
}

// P4.1, P4.3: a mixture has the shares of both; of truthful rules it is truthful, it meets what both meet, and has as much of the aim as the shares of both.
func TestMixtures(t *testing.T) {
	r := rand.New(rand.NewSource(44))
	met := map[int]int{}
	for i := range 500 {
		g := drawGame(r)
		g.Lots = true
		a, b := drawTruthful(r, g), drawTruthful(r, g)
		if i%2 == 1 {
			a, b = drawRule(r, g), drawRule(r, g)
		}
		w := num(r.Intn(6), 5)
		m, e := rule.Mix(g, a, b, w)
		if e != api.OK || !sameCells(m.Cells, mixedBy(a, b, w)) {
			t.Fatal("Mix", e, m)
		}
		if lie, ok := rule.Truthful(g, m); i%2 == 0 && !ok {
			t.Fatal("a mixture of truthful rules is not", lie)
		}
		shares := frac.Add(frac.Mul(w, rule.Aim(g, a)), frac.Mul(frac.Sub(num(1, 1), w), rule.Aim(g, b)))
		if c := frac.Cmp(rule.Aim(g, m), shares); c < 0 || c > 0 && g.Aim != api.AimWorst {
			t.Fatal("Aim of a mixture is", frac.Print(rule.Aim(g, m)), "not", frac.Print(shares))
		}
		needs := g.Needs
		for _, n := range needs {
			g.Needs = []api.Need{n}
			_, one := rule.Meets(g, a)
			_, other := rule.Meets(g, b)
			if _, both := rule.Meets(g, m); one && other && !both {
				t.Fatal("a mixture does not meet", n)
			}
			if one && other {
				met[n.Kind]++
			}
		}
	}
	for kind := 1; kind <= 6; kind++ {
		if met[kind] < 10 {
			t.Error("too few that both meet need", kind, met)
		}
	}
}

// The errors of Mix, in their order.
func TestMixErrors(t *testing.T) {
	g := game(t, "game lots total\nouts a b\nagent x\nkind k 1 0 0 0\n")
	a, b := law(t, g, "rule\ncell k 1 0\n"), law(t, g, "rule\ncell k 0 1\n")
	sure := g
	sure.Lots = false
	bad := g
	bad.Aim = 0
	none := api.Rule{}
	for i, c := range []struct {
		g    api.Game
		a, b api.Rule
		w    api.Frac
		e    api.Errno
	}{
		{g, a, b, num(1, 3), api.OK},
		{g, a, b, num(0, 1), api.OK},
		{g, a, b, num(1, 1), api.OK},
		{g, a, b, wrong(), api.OK},
		{bad, none, b, num(2, 1), api.ErrGame},
		{g, none, b, num(2, 1), api.ErrRule},
		{g, a, none, num(-1, 1), api.ErrRule},
		{g, a, b, num(-1, 9), api.ErrLot},
		{g, a, b, num(10, 9), api.ErrLot},
		{sure, a, b, num(10, 9), api.ErrLot},
		{sure, a, b, num(1, 2), api.ErrRule},
		{sure, a, a, num(1, 2), api.OK},
		{sure, a, b, num(0, 1), api.OK},
		{sure, a, b, num(1, 1), api.OK},
		{sure, a, b, wrong(), api.OK},
	} {
		m, e := rule.Mix(c.g, c.a, c.b, c.w)
		if e != c.e || e != api.OK && m.Cells != nil {
			t.Error("Mix", i, e, m)
		}
		if e == api.OK && !sameCells(m.Cells, mixedBy(c.a, c.b, c.w)) {
			t.Error("Mix", i, m)
		}
	}
}

// Example 4 of the chapter: without lots a mixture may not fit.
func TestMixOfSale(t *testing.T) {
	g := game(t, sale)
	a := law(t, g, "rule\ncell low mid 0 0 1 0 1\ncell high mid 0 1 0 2 0\n")
	b := law(t, g, "rule\ncell low mid 0 0 1 0 0\ncell high mid 0 0 1 0 0\n")
	if m, e := rule.Mix(g, a, b, num(1, 2)); e != api.ErrRule || m.Cells != nil {
		t.Error("Mix", m, e)
	}
	g.Lots = true
	if m, e := rule.Mix(g, a, b, num(1, 2)); e != api.OK || frac.Print(m.Cells[1].Lot[1]) != "1/2" || frac.Print(m.Cells[1].Pay[0]) != "1" {
		t.Error("Mix", m, e)
	}
}

func TestFixed(t *testing.T) {
	r := rand.New(rand.NewSource(45))
	for range 100 {
		g := drawGame(r)
		c := drawCell(r, g)
		got, e := rule.Fixed(g, c)
		if e != api.OK || len(got.Cells) != len(speech.Profiles(g)) {
			t.Fatal("Fixed", e, got)
		}
		for _, d := range got.Cells {
			if !sameCells([]api.Cell{d}, []api.Cell{c}) {
				t.Fatal("Fixed", d, c)
			}
		}
		if lie, ok := rule.Truthful(g, got); !ok {
			t.Fatal("Fixed is not truthful", lie)
		}
	}
	g := game(t, "game total\nouts a b\nagent x\nkind k 1 0 0 0\nkind l 1 0 0 0\n")
	for i, c := range []struct {
		cell api.Cell
		e    api.Errno
	}{
		{api.Cell{Lot: nums(0, 1), Pay: nums(0)}, api.OK},
		{api.Cell{Lot: []api.Frac{wrong(), num(1, 1)}, Pay: []api.Frac{wrong()}}, api.OK},
		{api.Cell{}, api.ErrRule},
		{api.Cell{Lot: nums(1, 0, 0), Pay: nums(0)}, api.ErrRule},
		{api.Cell{Lot: nums(1, 0), Pay: nums(0, 0)}, api.ErrRule},
		{api.Cell{Lot: nums(1, 0), Pay: nums(1)}, api.ErrRule},
		{api.Cell{Lot: []api.Frac{num(1, 2), num(1, 2)}, Pay: nums(0)}, api.ErrRule},
	} {
		got, e := rule.Fixed(g, c.cell)
		if e != c.e || e != api.OK && got.Cells != nil {
			t.Error("Fixed", i, e, got)
		}
		if e == api.OK && !sameCells(got.Cells[1:], []api.Cell{{Lot: nums(0, 1), Pay: nums(0)}}) {
			t.Error("Fixed", i, got)
		}
	}
	if got, e := rule.Fixed(api.Game{}, api.Cell{}); e != api.ErrGame || got.Cells != nil {
		t.Error("Fixed", e, got)
	}
}

// Example 2 of the chapter, and the errors of Draw in their order.
func TestDraw(t *testing.T) {
	lot := []api.Frac{num(1, 2), num(1, 3), num(1, 6)}
	for i, c := range []struct {
		lot    []api.Frac
		ticket api.Frac
		out    int
		e      api.Errno
	}{
		{lot, num(0, 1), 0, api.OK},
		{lot, num(49, 100), 0, api.OK},
		{lot, num(1, 2), 1, api.OK},
		{lot, num(83, 100), 1, api.OK},
		{lot, num(5, 6), 2, api.OK},
		{lot, num(99, 100), 2, api.OK},
		{lot, wrong(), 0, api.OK},
		{nums(0, 1), num(0, 1), 1, api.OK},
		{nums(0, 0, 1, 0, 0), num(99, 100), 2, api.OK},
		{nums(1), num(99, 100), 0, api.OK},
		{[]api.Frac{num(1, 2), wrong(), num(1, 2)}, num(1, 2), 2, api.OK},
		{lot, num(1, 1), 0, api.ErrTicket},
		{lot, num(7, 3), 0, api.ErrTicket},
		{lot, num(-1, 100), 0, api.ErrTicket},
		{nums(0, 1), num(1, 1), 0, api.ErrTicket},
		{lot[:2], num(0, 1), 0, api.ErrLot},
		{lot[:2], num(1, 1), 0, api.ErrLot},
		{nil, num(0, 1), 0, api.ErrLot},
		{nums(), num(-1, 1), 0, api.ErrLot},
		{nums(1, 1, -1), num(0, 1), 0, api.ErrLot},
		{nums(0, 2, -1), num(0, 1), 0, api.ErrLot},
		{[]api.Frac{num(1, 2), num(1, 1)}, num(0, 1), 0, api.ErrLot},
		{nums(0), num(0, 1), 0, api.ErrLot},
		{[]api.Frac{wrong()}, num(0, 1), 0, api.ErrLot},
	} {
		if out, e := rule.Draw(c.lot, c.ticket); out != c.out || e != c.e {
			t.Error("Draw", i, out, e)
		}
	}
}

// P4.4: of the tickets that are whole n-ths, as many draw an outcome as its chance has n-ths.
func TestTickets(t *testing.T) {
	r := rand.New(rand.NewSource(46))
	for range 200 {
		parts := make([]int, 1+r.Intn(7))
		n := 0
		for i := range parts {
			parts[i] = r.Intn(5)
			n += parts[i]
		}
		if n == 0 {
			continue
		}
		var lot []api.Frac
		for _, p := range parts {
			lot = append(lot, num(p, n))
		}
		drawn, last := make([]int, len(parts)), 0
		for ticket := range n {
			out, e := rule.Draw(lot, num(ticket, n))
			if e != api.OK || out < last {
				t.Fatal("Draw", parts, ticket, out, e)
			}
			drawn[out]++
			last = out
		}
		for i, p := range parts {
			if drawn[i] != p {
				t.Fatal("drawn", drawn, "not", parts)
			}
		}
	}
}

// A lottery of many chances.
func TestDrawOfMany(t *testing.T) {
	const n = 20000
	lot := make([]api.Frac, n)
	for i := range lot {
		lot[i] = num(1, n)
	}
	for _, at := range []int{0, 1, n / 2, n - 1} {
		if out, e := rule.Draw(lot, num(at, n)); out != at || e != api.OK {
			t.Error("Draw", at, out, e)
		}
	}
}
