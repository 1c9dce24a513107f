package plane

import "unbent/api"

// answer is what a table has come to: the kind; the variable of a line that nothing mends (None), or of a column that betters the goal for ever (Endless); and the side of 0 on which the line's right side is, or to which the variable goes.
type answer struct{ kind, variable, side int }

// solve solves the table for other variables until it shows the answer.
func (t *table) solve() answer {
	t.settle()
	t.start()
	a := t.repaired()
	t.guide = nil
	if a.kind == api.None {
		return a
	}
	if column := t.improve(); column >= 0 {
		return answer{api.Endless, t.columns[column], -t.goal[column].sign()}
	}
	return a
}

// repaired is the answer of a table whose lead is best already.
func (t *table) repaired() answer {
	if row := t.repair(); row >= 0 {
		return answer{api.None, t.solved[row], t.lines[row].right().sign()}
	}
	return answer{kind: api.Best}
}

// settle solves lines for the free variables, and then the lines of still ones for others. Behind it a free variable's column has nothing in the lines of signed ones, and a still one's line has nothing in any column but those of still ones: no step changes that any more.
func (t *table) settle() {
	for column := range t.columns {
		if t.natureOf(column) != free {
			continue
		}
		if row := t.holder(column); row >= 0 {
			t.swap(row, column)
		}
	}
	for row := range t.lines {
		if t.natures[t.solved[row]] != still {
			continue
		}
		if column := t.mover(row); column >= 0 {
			t.swap(row, column)
		}
	}
}

func (t *table) natureOf(column int) nature { return t.natures[t.columns[column]] }

// holder is the first line that can be solved for a free variable's column, one of a still variable if there is one; -1 if none can.
func (t *table) holder(column int) int {
	found := -1
	at := t.column(column)
	for row, v := range t.solved {
		if t.natures[v] == free || at(row).sign() == 0 {
			continue
		}
		if t.natures[v] == still {
			return row
		}
		if found < 0 {
			found = row
		}
	}
	return found
}

// mover is the first column but those of still variables for which a line can be solved; -1 if there is none.
func (t *table) mover(row int) int {
	for column := range t.columns {
		if t.natureOf(column) != still && t.lines[row][column].sign() != 0 {
			return column
		}
	}
	return -1
}

// start takes a guide: a goal that no column betters, so that repair may begin whatever the program's goal is.
func (t *table) start() {
	t.guide = make(line, len(t.columns)+2)
	for column := range t.columns {
		if t.natureOf(column) == signed {
			t.guide[column] = short(1)
		}
	}
	t.guide[len(t.guide)-1] = short(1)
}

// lead is the goal by which repair goes.
func (t *table) lead() line {
	if t.guide != nil {
		return t.guide
	}
	return t.goal
}

// repair is the dual simplex method: the lead has nothing below 0 in signed columns, and keeps so, while lines are solved for others until none is broken. It tells the place of a broken line that nothing mends, or -1.
func (t *table) repair() int {
	idle := 0
	for {
		row := t.broken(t.wary(idle))
		if row < 0 || t.lost() {
			return -1
		}
		column := t.mending(row)
		if column < 0 {
			return row
		}
		idle = count(idle, t.lead()[column])
		t.swap(row, column)
	}
}

// count counts one more idle step, or none if the step changes a value.
func count(idle int, change number) int {
	if change.sign() == 0 {
		return idle + 1
	}
	return 0
}

// wary reports whether so many steps in a row have changed no value: then the least variables are taken, by Bland's rule, which never comes back to where it was.
func (t *table) wary(idle int) bool { return idle > len(t.lines) }

// broken is the line that is furthest from what its variable may be, or the one of the least such variable; -1 if there is none.
func (t *table) broken(least bool) int {
	found := -1
	for row, l := range t.lines {
		side := l.right().sign()
		if side == 0 || t.natures[t.solved[row]] == free || side > 0 && t.natures[t.solved[row]] == signed {
			continue
		}
		if found < 0 || least && t.solved[row] < t.solved[found] || !least && l.further(t.lines[found]) {
			found = row
		}
	}
	return found
}

// mending is the column of a signed variable that mends a broken line and takes least from the lead for it, of several that of the least variable; -1 if there is none.
func (t *table) mending(row int) int {
	found := -1
	l, lead := t.lines[row], t.lead()
	side := l.right().sign()
	for column, v := range t.columns {
		if t.natures[v] != signed || l[column].sign() != side {
			continue
		}
		if found < 0 {
			found = column
			continue
		}
		order := side * lead[column].times(l[found]).minus(lead[found].times(l[column])).sign()
		if order < 0 || order == 0 && v < t.columns[found] {
			found = column
		}
	}
	return found
}

// improve is the simplex method: no line is broken, and keeps so, while lines are solved for variables that better the goal until none does. It tells the place of a column that betters it for ever, or -1.
func (t *table) improve() int {
	idle := 0
	for {
		column := t.better(t.wary(idle))
		if column < 0 || t.lost() {
			return -1
		}
		row := t.tightest(column)
		if row < 0 {
			return column
		}
		idle = count(idle, t.lines[row].right())
		t.swap(row, column)
	}
}

// better is the column that betters the goal most, or that of the least variable which does; -1 if none does.
func (t *table) better(least bool) int {
	found := -1
	for column, v := range t.columns {
		side := t.goal[column].sign()
		if side == 0 || t.natures[v] == still || side > 0 && t.natures[v] == signed {
			continue
		}
		if found < 0 || least && v < t.columns[found] || !least && t.goal[column].larger(t.goal[found]) {
			found = column
		}
	}
	return found
}

// tightest is the line of a signed variable that is the first one to break if a column's variable rises, of several that of the least variable; -1 if none breaks.
func (t *table) tightest(column int) int {
	found := -1
	at := t.column(column)
	for row, v := range t.solved {
		if t.natures[v] != signed || at(row).sign() <= 0 {
			continue
		}
		if found < 0 {
			found = row
			continue
		}
		order := t.lines[row].right().times(at(found)).minus(t.lines[found].right().times(at(row))).sign()
		if order < 0 || order == 0 && v < t.solved[found] {
			found = row
		}
	}
	return found
}
