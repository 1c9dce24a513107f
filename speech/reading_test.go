package speech_test

import (
	"strings"
	"testing"

	"unbent/api"
	"unbent/frac"
	"unbent/speech"
)

// P3.1: what the lines of a text say stands in the game.
func TestParse(t *testing.T) {
	g := game(t, every)
	if !g.Pay || !g.Lots || g.Aim != api.AimWorst || strings.Join(g.Outs, " ") != "none ann bob both" || len(g.Agents) != 2 || len(g.Needs) != 8 {
		t.Fatal("game", g)
	}
	bob := g.Agents[1]
	if g.Agents[0].Name != "ann" || len(g.Agents[0].Kinds) != 2 || bob.Name != "bob" || len(bob.Kinds) != 3 {
		t.Fatal("agents", g.Agents)
	}
	low := bob.Kinds[0]
	if low.Name != "low" || bob.Kinds[2].Name != "high" || frac.Print(low.Weight) != "1/4" || frac.Print(g.Agents[0].Kinds[1].Alone) != "-1" {
		t.Error("kinds", bob.Kinds)
	}
	if len(low.Worth) != 4 || frac.Print(low.Worth[2]) != "-7/5" || frac.Print(low.Worth[3]) != "1" {
		t.Error("worths", low.Worth)
	}
	wanted := []api.Need{
		{Kind: api.NeedPart},
		{Kind: api.NeedBudget},
		{Kind: api.NeedEven},
		{Kind: api.NeedBound, Bound: num(7, 2)},
		{Kind: api.NeedEnvy, Agent: 0, Other: 1, Swap: []int{0, 2, 1, 3}},
		{Kind: api.NeedOrder, Agent: 0, Outs: []int{1, 3}},
		{Kind: api.NeedOrder, Agent: 1, Outs: []int{2}},
		{Kind: api.NeedOrder, Agent: 1, Outs: []int{2}},
	}
	h := g
	h.Needs = wanted
	if !speech.Same(g, h) {
		t.Error("needs", g.Needs)
	}
}

// The line of game: each mark just if its word stands there, and each aim.
func TestMarks(t *testing.T) {
	rest := "\nouts a\nagent x\nkind k 1 0 0\n"
	for i, aim := range []string{"total", "worst", "paid"} {
		for marks := range 4 {
			text := "game "
			if marks&1 != 0 {
				text += "pay "
			}
			if marks&2 != 0 {
				text += "lots "
			}
			g := game(t, text+aim+rest)
			if g.Pay != (marks&1 != 0) || g.Lots != (marks&2 != 0) || g.Aim != []int{api.AimTotal, api.AimWorst, api.AimPaid}[i] {
				t.Error(text+aim, g)
			}
			if speech.Print(g) != text+aim+rest {
				t.Error("Print", speech.Print(g))
			}
		}
	}
}

// A line feed ends a line; the last one may have none.
func TestLineFeeds(t *testing.T) {
	if !speech.Same(game(t, every), game(t, strings.TrimSuffix(every, "\n"))) {
		t.Error("the last line feed")
	}
	checkParse(t, every+"\n", api.ErrWord, 18)
	checkParse(t, "\n"+every, api.ErrWord, 1)
	checkParse(t, strings.ReplaceAll(every, "\n", "\r\n"), api.ErrWord, 1)
}

func checkParse(t *testing.T, text string, e api.Errno, line int) {
	t.Helper()
	g, got, at := speech.Parse(text)
	if got != e || at != line {
		t.Errorf("%.200q: error %d, line %d, not error %d, line %d", text, got, at, e, line)
	}
	if e != api.OK && (g.Agents != nil || g.Outs != nil || g.Needs != nil || g.Pay || g.Lots || g.Aim != 0) {
		t.Error("a game beside an error", g)
	}
}

// Examples 2 and 4 of the chapter.
func TestExamples(t *testing.T) {
	checkParse(t, "game total\nouts a a\n", api.ErrTwice, 2)
	checkParse(t, "game total\nouts a\n", api.ErrCount, 3)
	checkParse(t, "game  total", api.ErrWord, 1)
	checkParse(t, "outs a\n", api.ErrOrder, 1)
	checkParse(t, "game lots pay total", api.ErrWord, 1)
	four := "kind a 1 0 0\nkind b 1 0 0\nkind c 1 0 0\nkind d 1 0 0\n"
	checkParse(t, "game total\nouts a\nagent x\n"+four+"agent y\n"+four+"agent z\nkind a 1 0 0\nkind b 1 0 0\n", api.ErrCount, 15)
}

// The text's length, and where a text may end.
func TestEnds(t *testing.T) {
	checkParse(t, strings.Repeat("a", api.MaxText), api.ErrWord, 1)
	checkParse(t, strings.Repeat("a", api.MaxText+1), api.ErrSize, 0)
	checkParse(t, every+strings.Repeat("x", api.MaxText+1-len(every)), api.ErrSize, 0)
	checkParse(t, "", api.ErrCount, 1)
	checkParse(t, "\n", api.ErrWord, 1)
	checkParse(t, "game total", api.ErrCount, 2)
	checkParse(t, "game total\nouts a", api.ErrCount, 3)
	checkParse(t, "game total\nouts a\nagent x", api.ErrCount, 4)
	checkParse(t, "game total\nouts a\nagent x\nkind k 1 0 0\nagent y\n", api.ErrCount, 6)
}

// Each row is a last line behind lines that are right, and its error. Of several errors in one line the first of the chapter's order counts; the rows with two or more say so by what stands in them.
func TestErrorsOfLines(t *testing.T) {
	const (
		none   = ""
		header = "game pay total\n"
		outs   = header + "outs a b c\n"
		agent  = outs + "agent x\n"
		kind   = agent + "kind k 1 0 1 2 3\n"
		two    = kind + "agent y\nkind k 1 0 1 2 3\nkind l 1 0 1 2 3\n"
		need   = two + "part\nbound 2\nenvy x y b a c\n"
	)
	for _, c := range []struct {
		ahead, line string
		e           api.Errno
	}{
		// 1: words.
		{none, "", api.ErrWord},
		{none, " ", api.ErrWord},
		{none, " game total", api.ErrWord},
		{none, "game total ", api.ErrWord},
		{none, "game  total", api.ErrWord},
		{none, "Game total", api.ErrWord},
		{none, "rule", api.ErrWord},
		{none, "total", api.ErrWord},
		{none, "game\ttotal", api.ErrWord},
		{none, "kind  x", api.ErrWord}, // not at its place, either
		{outs, "", api.ErrWord},
		{kind, "gift x", api.ErrWord},
		{kind, "order x  a", api.ErrWord},
		{need, "parts", api.ErrWord},

		// 2: places of lines.
		{none, "outs a", api.ErrOrder},
		{none, "agent x", api.ErrOrder},
		{none, "kind", api.ErrOrder}, // too few words, too
		{none, "part", api.ErrOrder},
		{header, "game total", api.ErrOrder},
		{header, "game", api.ErrOrder}, // no aim, too
		{header, "agent x", api.ErrOrder},
		{header, "bound 1", api.ErrOrder},
		{outs, "outs a b c", api.ErrOrder},
		{outs, "outs", api.ErrOrder},
		{outs, "game total", api.ErrOrder},
		{outs, "kind k 1 0 1 2 3", api.ErrOrder},
		{outs, "kind", api.ErrOrder},
		{agent, "game total", api.ErrOrder},
		{kind, "outs d", api.ErrOrder},
		{need, "outs a", api.ErrOrder},
		{need, "game total", api.ErrOrder},
		{need, "agent z", api.ErrOrder},
		{need, "agent", api.ErrOrder},
		{need, "agent x", api.ErrOrder}, // a name that was declared, too
		{need, "kind m 1 0 1 2 3", api.ErrOrder},
		{need, "kind", api.ErrOrder},

		// 3: how many lines.
		{agent, "agent y", api.ErrCount},
		{agent, "agent x", api.ErrCount},
		{agent, "agent Y", api.ErrCount},
		{agent, "part", api.ErrCount},
		{agent, "order y a", api.ErrCount},
		{outs, "part", api.ErrCount},
		{outs, "bound x", api.ErrCount},
		{header, "outs a b c d e f g", api.ErrCount},
		{header, "outs A a a d e f g", api.ErrCount},

		// 4: how many words.
		{none, "game", api.ErrWord},
		{none, "game pay", api.ErrWord},
		{none, "game pay lots", api.ErrWord},
		{none, "game total total", api.ErrWord},
		{none, "game total pay", api.ErrWord},
		{none, "game pay pay total", api.ErrWord},
		{none, "game lots lots total", api.ErrWord},
		{none, "game lots pay total", api.ErrWord},
		{none, "game pay lots least", api.ErrWord},
		{none, "game pay lots Total", api.ErrWord},
		{header, "outs", api.ErrCount},
		{outs, "agent", api.ErrCount},
		{outs, "agent x y", api.ErrCount},
		{outs, "agent X Y", api.ErrCount},
		{agent, "kind", api.ErrCount},
		{agent, "kind k 1 0 1 2", api.ErrCount},
		{agent, "kind K 1 0 1 2", api.ErrCount},
		{agent, "kind k 1 0 1 2 3 4", api.ErrCount},
		{agent, "kind k -1 0 1 2 3 4", api.ErrCount},
		{kind, "part x", api.ErrCount},
		{kind, "budget 1", api.ErrCount},
		{kind, "even even", api.ErrCount},
		{kind, "bound", api.ErrCount},
		{kind, "bound 1 2", api.ErrCount},
		{kind, "bound x y", api.ErrCount},
		{two, "envy x y a b", api.ErrCount},
		{two, "envy x y a b c a", api.ErrCount},
		{two, "envy z z a b c a", api.ErrCount},
		{two, "order", api.ErrCount},
		{two, "order x", api.ErrCount},
		{two, "order z", api.ErrCount},
		{need, "part part", api.ErrCount}, // twice, too

		// 5: words from the left.
		{header, "outs a B", api.ErrName},
		{header, "outs a b1", api.ErrName},
		{header, "outs a abcdefghijklm", api.ErrName},
		{header, "outs a a B", api.ErrTwice},
		{header, "outs a B a", api.ErrName},
		{header, "outs a b a", api.ErrTwice},
		{outs, "agent \xc3\xa9", api.ErrName},
		{outs, "agent -", api.ErrName},
		{kind, "agent x", api.ErrTwice},
		{agent, "kind K x 0 1 2 3", api.ErrName},
		{kind, "kind k x 0 1 2 3", api.ErrTwice},
		{kind, "kind l x 0 1 2 3", api.ErrNumber},
		{kind, "kind l -1 0 1 2 3", api.ErrNumber},
		{kind, "kind l -1/2 0 1 2 3", api.ErrNumber},
		{kind, "kind l 1 2/4 1 2 3", api.ErrNumber},
		{kind, "kind l 1 +1 1 2 3", api.ErrNumber},
		{kind, "kind l 1 0 1 2 -0", api.ErrNumber},
		{kind, "kind l 1 0 1 1/0 3", api.ErrNumber},
		{kind, "kind l 1 0 1 2 " + strings.Repeat("1", 41), api.ErrNumber},
		{kind, "bound x", api.ErrNumber},
		{kind, "bound -1", api.ErrNumber},
		{kind, "bound 0.5", api.ErrNumber},
		{need, "bound -1", api.ErrNumber}, // twice, too
		{two, "envy z y a b c", api.ErrKnown},
		{two, "envy x z a b c", api.ErrKnown},
		{two, "envy x y a b d", api.ErrKnown},
		{two, "envy y x a b d", api.ErrKnown}, // not in order, either
		{two, "envy x k a b c", api.ErrKnown}, // a kind's name
		{need, "envy x y a b d", api.ErrKnown},
		{two, "order z a", api.ErrKnown},
		{two, "order x d", api.ErrKnown},
		{two, "order x y", api.ErrKnown}, // an agent's name
		{two, "order x b a d", api.ErrKnown},
		{two, "order X a", api.ErrKnown},

		// 6: the line as a whole.
		{need, "part", api.ErrTwice},
		{need, "bound 2", api.ErrTwice},
		{need, "bound 3", api.ErrTwice},
		{need + "budget\n", "budget", api.ErrTwice},
		{need + "even\n", "even", api.ErrTwice},
		{need, "envy x y b a c", api.ErrTwice},
		{need, "envy x y a b c", api.ErrTwice},
		{need, "envy x y b c a", api.ErrTwice}, // no Swap, either
		{need, "envy y x b a c", api.ErrOrder},
		{need, "envy y x b c a", api.ErrOrder}, // no Swap, either
		{need, "envy x x a b c", api.ErrOrder},
		{two, "envy y y a b c", api.ErrOrder},
		{two, "envy x y b c a", api.ErrGame},
		{two, "envy x y a a a", api.ErrGame},
		{two, "envy x y b a a", api.ErrGame},
		{two, "order x b a", api.ErrOrder},
		{two, "order x a a", api.ErrOrder},
		{two, "order x a c b", api.ErrOrder},
		{two, "order x a b c c a b c", api.ErrOrder},

		// None.
		{none, "game total\nouts abcdefghijkl a\nagent a\nkind a 0 -1 1/2 " + strings.Repeat("9", 40), api.OK},
		{two, "envy x y a b c", api.OK},
		{two, "order y a b c", api.OK},
		{need, "order x b\norder x b\norder x a", api.OK},
		{need, "even\nbudget", api.OK},
		{two, "bound 0", api.OK},
		{two, "agent k\nkind a 1 0 0 0 0", api.OK},
	} {
		line := 0
		if c.e != api.OK {
			line = strings.Count(c.ahead, "\n") + 1
		}
		if c.line == "" { // one that has no line feed is none
			c.line = "\n"
		}
		checkParse(t, c.ahead+c.line, c.e, line)
		if c.e != api.OK && c.line != "\n" { // the first line that is wrong counts
			checkParse(t, c.ahead+c.line+"\nnothing\n", c.e, line)
		}
	}
}

// lines is so many lines with names of their own.
func lines(n int, head, rest string) string {
	var out strings.Builder
	for i := range n {
		out.WriteString(head + " " + string(rune('a'+i)) + rest + "\n")
	}
	return out.String()
}

// The limits: as many as may be, and one more.
func TestLimits(t *testing.T) {
	const outs = "game total\nouts a\n"
	one := "\nkind a 1 0 0"
	checkParse(t, "game total\nouts a b c d e f\nagent x\nkind k 1 0 1 2 3 4 5 6\n", api.OK, 0)
	checkParse(t, outs+lines(4, "agent", one), api.OK, 0)
	checkParse(t, outs+lines(4, "agent", one)+"agent A", api.ErrCount, 11)
	checkParse(t, outs+"agent x\n"+lines(4, "kind", " 1 0 0"), api.OK, 0)
	checkParse(t, outs+"agent x\n"+lines(4, "kind", " 1 0 0")+"kind A 1 0", api.ErrCount, 8)
	checkParse(t, outs+lines(1, "agent", one)+lines(12, "order a", ""), api.ErrKnown, 6)
	checkParse(t, outs+lines(1, "agent", one)+strings.Repeat("order a a\n", 12), api.OK, 0)
	checkParse(t, outs+lines(1, "agent", one)+strings.Repeat("order a a\n", 12)+"bound x", api.ErrCount, 17)
	checkParse(t, outs+lines(1, "agent", one)+strings.Repeat("order a a\n", 12)+"agent x", api.ErrOrder, 17)
}

// Profiles: 16 may be, of whichever agents; the kind by which they are more is wrong.
func TestProfilesLimit(t *testing.T) {
	for _, c := range []struct {
		kinds []int
		line  int // of the kind that is one too many
	}{
		{[]int{4, 4}, 0},
		{[]int{2, 2, 2, 2}, 0},
		{[]int{4, 4, 1, 1}, 0},
		{[]int{1, 1, 4, 4}, 0},
		{[]int{3, 3, 1}, 0},
		{[]int{3, 4}, 0},
		{[]int{3, 3, 2}, 13},
		{[]int{4, 4, 2}, 15},
		{[]int{2, 3, 3}, 13},
		{[]int{2, 2, 2, 3}, 15},
	} {
		text := "game total\nouts a\n"
		for i, n := range c.kinds {
			text += "agent " + string(rune('a'+i)) + "\n" + lines(n, "kind", " 1 0 0")
		}
		if c.line == 0 {
			checkParse(t, text, api.OK, 0)
		} else {
			checkParse(t, text, api.ErrCount, c.line)
		}
	}
}

// Names of agents, kinds and outcomes are apart, and so are those of two agents' kinds.
func TestNamesApart(t *testing.T) {
	g := game(t, "game total\nouts a b\nagent a\nkind a 1 0 0 0\nkind b 1 0 0 0\nagent b\nkind a 1 0 0 0\nkind b 1 0 0 0\nenvy a b a b\norder b b\n")
	if g.Needs[0].Agent != 0 || g.Needs[0].Other != 1 || g.Needs[1].Agent != 1 || g.Needs[1].Outs[0] != 1 {
		t.Error("needs", g.Needs)
	}
}
