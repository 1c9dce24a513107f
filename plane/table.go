package plane

import (
	"slices"

	"unbent/api"
)

// nature is what a variable may be.
type nature int

const (
	signed nature = iota // not below 0
	free                 // anything
	still                // 0 alone
)

// How long the numbers of a table may be, in limbs. Where they are long, a rough table is many times faster than an exact one; and it mostly comes to the same corner.
const (
	exactly = 0 // as long as they are
	roughly = 6
	finely  = 24
)

// table is a program solved for some of its variables, the others being 0. Besides the program's own variables each row has one: its rest, which is B less the row's sum (of an AtLeast row: the sum less B); it is still if the row is Exact. Variables are numbered: the program's ones, then the rests.
type table struct {
	vars    int
	longest int  // limbs of a number
	rough   bool // whether a line was cut
	steps   int
	natures []nature // of the variables
	solved  []int    // the variable for which each line is solved
	columns []int    // the variable of each column
	lines   []line
	goal    line // "the value, less what each column's variable takes from it, is the right side"
	guide   line // a goal in the place of goal, or none: see start
}

// newTable is a right program's table, solved for the rests.
func newTable(p api.Prog, longest int) *table {
	t := &table{vars: p.Vars, longest: longest, goal: newLine(p.Goal, api.Frac{}).taken()}
	for v := range p.Vars {
		t.columns = append(t.columns, v)
		t.natures = append(t.natures, signed)
		if p.Free[v] {
			t.natures[v] = free
		}
	}
	for _, row := range p.Rows {
		t.add(newLine(row.A, row.B), row.Sense)
	}
	return t
}

// add adds a row's line, which is solved for its rest.
func (t *table) add(l line, sense int) {
	rest := signed
	switch sense {
	case api.AtLeast:
		l = l.taken()
	case api.Exact:
		rest = still
	}
	t.solved = append(t.solved, len(t.natures))
	t.natures = append(t.natures, rest)
	t.lines = append(t.lines, l)
}

// clone is a table that may go on by itself.
func (t *table) clone() *table {
	out := *t
	out.steps = 0
	out.natures = slices.Clone(t.natures)
	out.solved, out.columns = slices.Clone(t.solved), slices.Clone(t.columns)
	out.lines = slices.Clone(t.lines)
	return &out
}

// fix adds a row that one of the program's variables is exactly bit.
func (t *table) fix(variable, bit int) {
	out := make(line, len(t.columns)+2)
	out[len(out)-2], out[len(out)-1] = short(bit), short(1)
	if column := slices.Index(t.columns, variable); column >= 0 {
		out[column] = short(1)
	} else {
		l := t.lines[slices.Index(t.solved, variable)]
		for i, n := range l {
			out[i] = n.neg()
		}
		out[len(out)-2] = l.own().times(short(bit)).minus(l.right())
		out[len(out)-1] = l.own()
	}
	t.add(out.reduced(), api.Exact)
}

// swap solves a line for a column's variable, and all other lines with it.
func (t *table) swap(row, column int) {
	t.steps++
	solved := t.lines[row].solved(column)
	for i := range t.lines {
		if i != row {
			t.clear(&t.lines[i], solved, column)
		}
	}
	t.clear(&t.goal, solved, column)
	if t.guide != nil {
		t.clear(&t.guide, solved, column)
	}
	t.lines[row] = solved
	t.solved[row], t.columns[column] = t.columns[column], t.solved[row]
}

// clear clears a line by a solved one, and cuts it if it is too long.
func (t *table) clear(l *line, solved line, column int) {
	*l = l.cleared(solved, column)
	if t.longest > 0 && l.limbs() > t.longest {
		*l = l.cut(t.longest)
		t.rough = true
	}
}

// lost reports whether a rough table, which may go round for ever, has taken far more steps than tables do.
func (t *table) lost() bool {
	return t.rough && t.steps > 20*(len(t.lines)+len(t.columns))
}

// column reads a column of the table's lines.
func (t *table) column(place int) func(row int) number {
	return func(row int) number { return t.lines[row][place] }
}
