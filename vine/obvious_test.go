package vine_test

import (
	"math/rand"
	"testing"

	"unbent/api"
	"unbent/rule"
	"unbent/vine"
)

func isDoubt(d api.Doubt, node, kind int, best, worst api.Frac) bool {
	return d.Node == node && d.Kind == kind && isRightly(d.Best, best) && isRightly(d.Worst, worst)
}

// P8.3: no doubt is zero, and all its numbers are right.
func TestNoDoubt(t *testing.T) {
	g := game(t, meal)
	if d, ok := vine.Obvious(g, vineOf(end(1, 0, 0))); !ok || !isDoubt(d, 0, 0, num(0, 1), num(0, 1)) {
		t.Error("an end alone", d, ok)
	}
	constant := vineOf(ask(0, []int{1}, 1, 2), end(1, 0, 0), end(1, 0, 0))
	if d, ok := vine.Obvious(g, constant); !ok || !isDoubt(d, 0, 0, num(0, 1), num(0, 1)) {
		t.Error("the same at both ends", d, ok)
	}
}

// P8.3: of what is not right Node is -1.
func TestObviousOfWrong(t *testing.T) {
	g := game(t, meal)
	for i, v := range []api.Vine{{}, vineOf(end(2, 0, 0)), vineOf(end(0, 0)), vineOf(end(0, 0, 1)), vineOf(ask(0, []int{0}, 1, 1), end(0, 0, 0))} {
		if d, ok := vine.Obvious(g, v); ok || !isDoubt(d, -1, 0, num(0, 1), num(0, 1)) {
			t.Error("tree", i, d, ok)
		}
	}
	g.Aim = 0
	if d, ok := vine.Obvious(g, vineOf(end(1, 0, 0))); ok || !isDoubt(d, -1, 0, num(0, 1), num(0, 1)) {
		t.Error("a wrong game", d, ok)
	}
}

// P8.3: doubts by hand, of ann, whose kind a likes fish, b soup, and c both.
func TestDoubtByHand(t *testing.T) {
	g := game(t, meal)
	for _, c := range []struct {
		name        string
		v           api.Vine
		node, kind  int
		best, worst int
	}{
		{"each has what it likes", dinner(), -1, 0, 0, 0},
		{"ann chooses", vineOf(ask(0, []int{0}, 1, 2), end(1, 0, 0), end(0, 0, 0)), -1, 0, 0, 0},
		{"ann has the other one", vineOf(ask(0, []int{0}, 1, 2), end(0, 0, 0), end(1, 0, 0)), 0, 0, 1, 0},
		{"bob may bring fish behind the lie", vineOf(ask(0, []int{0}, 1, 2), end(0, 0, 0), ask(1, []int{0}, 3, 4), end(1, 0, 0), end(0, 0, 0)), 0, 0, 1, 0},
		{"bob may bring fish behind the truth, and the lie is no better", vineOf(ask(0, []int{0}, 1, 2), end(1, 0, 0), ask(1, []int{0}, 3, 4), end(1, 0, 0), end(0, 0, 0)), -1, 0, 0, 0},
		{"bob may bring fish behind the truth, and the lie is better", vineOf(ask(0, []int{0}, 1, 2), end(0, 0, 0), ask(1, []int{0}, 3, 4), end(1, 0, 0), end(1, 0, 0)), 0, 0, 1, 0},
		{"the next answer is true too", vineOf(ask(0, []int{0}, 1, 2), end(1, 0, 0), ask(0, []int{1}, 3, 4), end(0, 0, 0), end(1, 0, 0)), -1, 0, 0, 0},
		{"a lie may follow a lie", vineOf(ask(0, []int{0}, 1, 2), end(0, 0, 0), ask(0, []int{1}, 3, 4), end(0, 0, 0), end(1, 0, 0)), 0, 0, 1, 0},
		{"a doubt behind an end", vineOf(ask(0, []int{0}, 1, 2), end(1, 0, 0), ask(0, []int{1}, 3, 4), end(1, 0, 0), end(0, 0, 0)), 2, 1, 1, 0},
	} {
		d, ok := vine.Obvious(g, c.v)
		if c.node < 0 && (!ok || d.Node != 0) || c.node >= 0 && (ok || !isDoubt(d, c.node, c.kind, num(c.best, 1), num(c.worst, 1))) {
			t.Error(c.name, d, ok)
		}
	}
}

// P8.3: the first doubt is at the lesser node, though Yes leads to the other one.
func TestFirstDoubt(t *testing.T) {
	g := game(t, "game total\nouts soup fish\nagent ann\nkind a 1 0 0 1\nkind b 1 0 3 0\nagent bob\nkind a 1 0 0 0\nkind b 1 0 0 0\n")
	v := vineOf(ask(1, []int{0}, 2, 1), ask(0, []int{0}, 3, 4), ask(0, []int{1}, 5, 6), end(0, 0, 0), end(1, 0, 0), end(1, 0, 0), end(0, 0, 0))
	if d, ok := vine.Obvious(g, v); ok || !isDoubt(d, 1, 0, num(1, 1), num(0, 1)) {
		t.Error("both nodes", d, ok)
	}
	v.Nodes[3].Out = 1
	if d, ok := vine.Obvious(g, v); ok || !isDoubt(d, 2, 0, num(1, 1), num(0, 1)) && !isDoubt(d, 1, 1, num(3, 1), num(0, 1)) {
		t.Error("fish behind node 1", d, ok)
	}
	v.Nodes[4].Out = 0
	if d, ok := vine.Obvious(g, v); ok || !isDoubt(d, 2, 0, num(1, 1), num(0, 1)) {
		t.Error("node 2 alone", d, ok)
	}
}

// P8.3: payments count; numbers that are not right are 0.
func TestDoubtOfPayments(t *testing.T) {
	g := game(t, "game pay total\nouts all\nagent ann\nkind a 1 0 1/3\nkind b 1 0 1/2\n")
	v := vineOf(ask(0, []int{1}, 1, 2), end(0, 1), end(0, 1))
	if d, ok := vine.Obvious(g, v); !ok {
		t.Error("the same payments", d)
	}
	v.Nodes[2].Pay[0] = wrong()
	if d, ok := vine.Obvious(g, v); ok || !isDoubt(d, 0, 1, num(1, 2), num(-1, 2)) {
		t.Error("a payment of 0", d, ok)
	}
	v.Nodes[2].Pay[0] = num(5, 4)
	if d, ok := vine.Obvious(g, v); ok || !isDoubt(d, 0, 0, num(-2, 3), num(-11, 12)) {
		t.Error("a greater payment", d, ok)
	}
}

// P8.3: the first doubt is that of the second reading.
func TestObviousIsAsRead(t *testing.T) {
	r := rand.New(rand.NewSource(85))
	clear, doubtful := 0, 0
	for range 6000 {
		g := drawGame(r, drawSort(r))
		v := drawVine(r, g)
		d, ok := vine.Obvious(g, v)
		all := (oracle{g, v}).doubts()
		if len(all) == 0 {
			clear++
			if !ok || !isDoubt(d, 0, 0, num(0, 1), num(0, 1)) {
				t.Fatal("a doubt that is none", v, d, ok)
			}
			continue
		}
		doubtful++
		if first := all[0]; ok || d.Node != first.node || d.Kind != first.kind || !is(d.Best, first.best) || !is(d.Worst, first.worst) {
			t.Fatal("another doubt", v, d, ok, first)
		}
	}
	if clear < 500 || doubtful < 500 {
		t.Error("clear", clear, "doubtful", doubtful)
	}
}

// P8.7: the rule of a tree that is right and obvious is truthful.
func TestObviousIsTruthful(t *testing.T) {
	r := rand.New(rand.NewSource(86))
	seen, other := 0, 0
	for range 6000 {
		g := drawGame(r, drawSort(r))
		v := drawVine(r, g)
		_, truthful := rule.Truthful(g, ruleOf(t, g, v))
		_, ok := vine.Obvious(g, v)
		if ok && !truthful {
			t.Fatal("obvious, but not truthful", v)
		}
		if ok && len(v.Nodes) > 3 {
			seen++
		}
		if !ok && truthful {
			other++
		}
	}
	if seen < 200 || other == 0 {
		t.Error("obvious", seen, "truthful alone", other)
	}
}

// Truthful, but in doubt: two bidders who say their values at once; who has the lesser one pays nothing, and who has the thing pays the other's value.
func TestSealed(t *testing.T) {
	g, _ := clock(t, nums(1, 2, 3), 2)
	v := vineOf(ask(0, []int{0}, 1, 2), end(2, 0, 1), ask(0, []int{1}, 3, 4),
		ask(1, []int{0}, 5, 6), ask(1, []int{2}, 7, 8), end(1, 1, 0), end(2, 0, 2), end(1, 3, 0), ask(1, []int{1}, 9, 10), end(1, 2, 0), end(1, 1, 0))
	if _, truthful := rule.Truthful(g, ruleOf(t, g, v)); !truthful {
		t.Error("not truthful")
	}
	d, ok := vine.Obvious(g, v)
	if ok || !isDoubt(d, 2, 1, num(1, 1), num(0, 1)) {
		t.Error("doubt", d, ok)
	}
}
