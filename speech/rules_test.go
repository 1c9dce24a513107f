package speech_test

import (
	"math/rand"
	"strings"
	"testing"

	"unbent/api"
	"unbent/frac"
	"unbent/speech"
)

// sameNumbers reports whether two lists are alike word by word.
func sameNumbers(a, b []api.Frac) bool {
	if len(a) != len(b) {
		return false
	}
	for i := range a {
		if !frac.Right(a[i]) || !frac.Right(b[i]) || frac.Cmp(a[i], b[i]) != 0 {
			return false
		}
	}
	return true
}

func checkRule(t *testing.T, g api.Game, text string, e api.Errno, line int) {
	t.Helper()
	r, got, at := speech.ParseRule(g, text)
	if got != e || at != line {
		t.Errorf("%.200q: error %d, line %d, not error %d, line %d", text, got, at, e, line)
	}
	if e != api.OK && r.Cells != nil {
		t.Error("a rule beside an error", r)
	}
}

// P3.1: what the lines of a rule's text say stands in the rule.
func TestParseRule(t *testing.T) {
	g := game(t, first)
	text := "rule\ncell low any 1/2 1/3 1/6 -1 2\ncell high any 0 1 0 5/7 0\n"
	r, e, line := speech.ParseRule(g, text)
	if e != api.OK || line != 0 || len(r.Cells) != 2 {
		t.Fatal("ParseRule", e, line)
	}
	if !sameNumbers(r.Cells[0].Lot, []api.Frac{num(1, 2), num(1, 3), num(1, 6)}) || !sameNumbers(r.Cells[0].Pay, nums(-1, 2)) {
		t.Error("first cell", r.Cells[0])
	}
	if !sameNumbers(r.Cells[1].Lot, nums(0, 1, 0)) || !sameNumbers(r.Cells[1].Pay, []api.Frac{num(5, 7), num(0, 1)}) {
		t.Error("second cell", r.Cells[1])
	}
	if speech.PrintRule(g, r) != text {
		t.Error("PrintRule", speech.PrintRule(g, r))
	}
	checkRule(t, g, strings.TrimSuffix(text, "\n"), api.OK, 0)
	checkRule(t, g, text+"\n", api.ErrWord, 4)
}

// Example 3 of the chapter.
func TestRuleExamples(t *testing.T) {
	g := game(t, first)
	checkRule(t, g, "rule\ncell low any 1 0 0 0 0\n", api.ErrCount, 3)
	checkRule(t, g, "rule\ncell high any 1 0 0 0 0\n", api.ErrOrder, 2)
	checkRule(t, g, "rule\ncell low any 1/2 0 0 0 0\n", api.ErrRule, 2)
}

// A game without payments: its rules' texts have none, its rules have zeros.
func TestRuleWithoutPay(t *testing.T) {
	g := game(t, strings.Replace(first, "pay lots", "lots", 1))
	text := "rule\ncell low any 1/2 1/2 0\ncell high any 0 1 0\n"
	r, e, _ := speech.ParseRule(g, text)
	if e != api.OK || !sameNumbers(r.Cells[0].Pay, nums(0, 0)) || !sameNumbers(r.Cells[1].Pay, nums(0, 0)) {
		t.Fatal("payments", e, r)
	}
	if speech.PrintRule(g, r) != text {
		t.Error("PrintRule", speech.PrintRule(g, r))
	}
	r.Cells[1].Pay[0] = wrong() // which is 0
	if speech.PrintRule(g, r) != text {
		t.Error("PrintRule of a payment that is not right")
	}
	r.Cells[1].Pay[0] = num(1, 1)
	if speech.PrintRule(g, r) != "" {
		t.Error("PrintRule of a payment")
	}
	checkRule(t, g, "rule\ncell low any 1/2 1/2 0 0 0\n", api.ErrCount, 2)
}

// A game without lots: one chance is 1.
func TestRuleWithoutLots(t *testing.T) {
	g := game(t, strings.Replace(first, "pay lots", "pay", 1))
	checkRule(t, g, "rule\ncell low any 0 0 1 1 2\ncell high any 1 0 0 0 0\n", api.OK, 0)
	checkRule(t, g, "rule\ncell low any 0 0 1 1 2\ncell high any 1/2 1/2 0 0 0\n", api.ErrRule, 3)
}

// Each row is a last line behind lines that are right, and its error; of several errors in one line the first of the chapter's order counts.
func TestErrorsOfRules(t *testing.T) {
	const (
		none = ""
		rule = "rule\n"
		cell = rule + "cell low any 1 0 0 0 0\n"
		full = cell + "cell high any 1 0 0 0 0\n"
	)
	g := game(t, first)
	for _, c := range []struct {
		ahead, line string
		e           api.Errno
	}{
		{none, "\n", api.ErrWord},
		{none, " rule", api.ErrWord},
		{none, "Rule", api.ErrWord},
		{none, "game", api.ErrWord},
		{none, "cell ", api.ErrWord},
		{rule, "cells", api.ErrWord},
		{rule, "cell low any 1 0 0  0 0", api.ErrWord},
		{full, "part", api.ErrWord},

		{none, "cell low any 1 0 0 0 0", api.ErrOrder},
		{none, "cell", api.ErrOrder},
		{rule, "rule", api.ErrOrder},
		{cell, "rule", api.ErrOrder},
		{full, "rule", api.ErrOrder},
		{rule, "rule x", api.ErrOrder},

		{none, "rule x", api.ErrCount},
		{rule, "cell", api.ErrCount},
		{rule, "cell low any 1 0 0 0", api.ErrCount},
		{rule, "cell low any 1 0 0 0 0 0", api.ErrCount},
		{rule, "cell big any 1 0 0 0 0 0", api.ErrCount},
		{full, "cell low any 1 0 0 0 0", api.ErrCount},
		{full, "cell x", api.ErrCount},

		{rule, "cell any any 1 0 0 0 0", api.ErrKnown},
		{rule, "cell big low x 0 0 0 0", api.ErrKnown},
		{rule, "cell low low 1 0 0 0 0", api.ErrKnown},
		{rule, "cell high low 1 0 0 0 0", api.ErrOrder},
		{rule, "cell high any x 0 0 0 0", api.ErrOrder},
		{cell, "cell low any 1 0 0 0 0", api.ErrOrder},
		{rule, "cell low any x 0 0 0 0", api.ErrNumber},
		{rule, "cell low any 1 0 0 0 2/4", api.ErrNumber},
		{rule, "cell low any 2 0 0 0 x", api.ErrNumber},

		{rule, "cell low any 1 1 -1 0 0", api.ErrRule},
		{rule, "cell low any 0 0 0 0 0", api.ErrRule},
		{rule, "cell low any 1/2 1/3 1/5 0 0", api.ErrRule},
		{rule, "cell low any 2 0 0 0 0", api.ErrRule},
	} {
		line := strings.Count(c.ahead, "\n") + 1
		checkRule(t, g, c.ahead+c.line, c.e, line)
		checkRule(t, g, c.ahead+c.line+"\nnothing\n", c.e, line)
	}
	checkRule(t, g, "", api.ErrCount, 1)
	checkRule(t, g, rule, api.ErrCount, 2)
	checkRule(t, g, cell, api.ErrCount, 3)
	checkRule(t, g, full, api.OK, 0)
	checkRule(t, g, full+strings.Repeat("x", api.MaxText-len(full)), api.ErrWord, 4)
	checkRule(t, g, full+strings.Repeat("x", api.MaxText+1-len(full)), api.ErrSize, 0)
	checkRule(t, api.Game{}, full+strings.Repeat("x", api.MaxText+1-len(full)), api.ErrGame, 0)
	g.Outs = make([]string, 7)
	checkRule(t, g, full, api.ErrGame, 0)
}

// The profiles of a rule stand in their order, the last agent's kind changing fastest.
func TestRuleOrder(t *testing.T) {
	g := game(t, "game total\nouts a\nagent x\nkind k 1 0 0\nkind l 1 0 0\nagent y\nkind k 1 0 0\nkind l 1 0 0\n")
	checkRule(t, g, "rule\ncell k k 1\ncell k l 1\ncell l k 1\ncell l l 1\n", api.OK, 0)
	checkRule(t, g, "rule\ncell k k 1\ncell l k 1\ncell k l 1\ncell l l 1\n", api.ErrOrder, 3)
	checkRule(t, g, "rule\ncell k k 1\ncell k l 1\ncell l k 1\ncell l k 1\n", api.ErrOrder, 5)
}

// PrintRule tells which rules fit.
func TestFits(t *testing.T) {
	r := rand.New(rand.NewSource(32))
	for _, c := range []struct {
		pay, lots bool
		change    func(r *api.Rule)
		fits      bool
	}{
		{true, true, func(r *api.Rule) {}, true},
		{true, true, func(r *api.Rule) { r.Cells = nil }, false},
		{true, true, func(r *api.Rule) { r.Cells = r.Cells[1:] }, false},
		{true, true, func(r *api.Rule) { r.Cells = append(r.Cells, r.Cells[0]) }, false},
		{true, true, func(r *api.Rule) { r.Cells[1].Lot = nums(1, 0) }, false},
		{true, true, func(r *api.Rule) { r.Cells[1].Lot = nums(1, 0, 0, 0) }, false},
		{true, true, func(r *api.Rule) { r.Cells[1].Lot = nil }, false},
		{true, true, func(r *api.Rule) { r.Cells[1].Lot = nums(1, 1, -1) }, false},
		{true, true, func(r *api.Rule) { r.Cells[1].Lot = nums(0, 0, 0) }, false},
		{true, true, func(r *api.Rule) { r.Cells[1].Lot = []api.Frac{wrong(), num(1, 2), num(1, 2)} }, true},
		{true, true, func(r *api.Rule) { r.Cells[1].Lot = []api.Frac{wrong(), wrong(), wrong()} }, false},
		{true, true, func(r *api.Rule) { r.Cells[1].Lot = []api.Frac{num(1, 3), num(1, 3), num(1, 4)} }, false},
		{true, true, func(r *api.Rule) { r.Cells[1].Pay = nums(1) }, false},
		{true, true, func(r *api.Rule) { r.Cells[1].Pay = nums(1, 2, 3) }, false},
		{true, true, func(r *api.Rule) { r.Cells[1].Pay = nums(-1, 9) }, true},
		{false, true, func(r *api.Rule) {}, true},
		{false, true, func(r *api.Rule) { r.Cells[1].Pay = nums(0) }, false},
		{false, true, func(r *api.Rule) { r.Cells[1].Pay = nil }, false},
		{false, true, func(r *api.Rule) { r.Cells[1].Pay = nums(0, 1) }, false},
		{false, true, func(r *api.Rule) { r.Cells[1].Pay = []api.Frac{wrong(), {}} }, true},
		{true, false, func(r *api.Rule) { r.Cells[1].Lot = nums(0, 0, 1) }, true},
		{true, false, func(r *api.Rule) { r.Cells[1].Lot = []api.Frac{num(1, 2), num(1, 2), {}} }, false},
		{true, false, func(r *api.Rule) { r.Cells[1].Lot = nums(1, 1, -1) }, false},
	} {
		g := game(t, first)
		g.Pay, g.Lots = c.pay, c.lots
		rule := drawRule(r, g)
		c.change(&rule)
		if (speech.PrintRule(g, rule) != "") != c.fits {
			t.Error(c.fits, rule)
		}
	}
}
