package frac

import "unbent/api"

// Linear solves rows * x = right: x is 0 at each column that is a sum of multiples of the columns ahead of it. If there is no solution, y is a proof: y * rows is 0, and y * right is not. ErrForm, ErrSize.
func Linear(rows [][]api.Frac, right []api.Frac) (x, y []api.Frac, ok bool, e api.Errno) {
	if len(rows) != len(right) {
		return nil, nil, false, api.ErrForm
	}
	if e := checkForm(rows); e != api.OK {
		return nil, nil, false, e
	}
	s := joined(rows, right)
	if solution, ok := s.solve(); ok {
		return tellAll(solution), nil, true, api.OK
	}
	return nil, tellAll(proof(s)), false, api.OK
}

// Rank is how many columns are no sum of multiples of the columns ahead of them; ErrForm, ErrSize.
func Rank(rows [][]api.Frac) (int, api.Errno) {
	if e := checkForm(rows); e != api.OK {
		return 0, e
	}
	nothing := make([]api.Frac, len(rows)) // empty fractions stand for 0
	_, steps := joined(rows, nothing).echelon()
	return len(steps), api.OK
}

// checkForm is ErrForm if the rows are of different lengths, ErrSize if they or the columns are too many.
func checkForm(rows [][]api.Frac) api.Errno {
	if len(rows) == 0 {
		return api.OK
	}
	for _, row := range rows {
		if len(row) != len(rows[0]) {
			return api.ErrForm
		}
	}
	if len(rows) > api.SolveVars || len(rows[0]) > api.SolveVars {
		return api.ErrSize
	}
	return api.OK
}

// system is equations: a row of numbers for each, and last what it is to give.
type system [][]ratio

func joined(rows [][]api.Frac, right []api.Frac) system {
	out := make(system, len(rows))
	for i, row := range rows {
		out[i] = append(readAll(row), read(right[i]))
	}
	return out
}

// columns is how many numbers a row has, but for the last one.
func (s system) columns() int {
	if len(s) == 0 {
		return 0
	}
	return len(s[0]) - 1
}

// echelon is the system's rows as whole ones, and its steps: the row of a step's number begins at the step's column, and the rows behind have nothing up to there.
func (s system) echelon() (rows []line, steps []int) {
	rows = make([]line, len(s))
	for i, row := range s {
		rows[i] = whole(row)
	}
	for column := range s.columns() {
		left := rows[len(steps):]
		if !bringUp(left, column) {
			continue
		}
		for _, row := range left[1:] {
			row.clear(left[0], column)
		}
		steps = append(steps, column)
	}
	return rows, steps
}

// solve is the solution that is 0 at each column that is no step, if there is a solution.
func (s system) solve() (x []ratio, ok bool) {
	rows, steps := s.echelon()
	for _, row := range rows[len(steps):] {
		if !row[s.columns()].isZero() {
			return nil, false
		}
	}
	x = make([]ratio, s.columns())
	for i := range x {
		x[i] = zero()
	}
	for i := len(steps) - 1; i >= 0; i-- {
		x[steps[i]] = rows[i].unknown(steps[i], x)
	}
	return x, true
}

// proof is what shows that a system has no solution: it solves the system of its columns, in which the last one is to be 1 and the others 0.
func proof(s system) []ratio {
	columns := make(system, s.columns()+1)
	for j := range columns {
		for _, row := range s {
			columns[j] = append(columns[j], row[j])
		}
		columns[j] = append(columns[j], zero())
	}
	columns[s.columns()][len(s)] = ratio{number{words: one()}, one()}
	y, _ := columns.solve()
	return shortened(y)
}

// shortened is whole multiples of y, or y itself where they are too long to be told.
func shortened(y []ratio) []ratio {
	out := make([]ratio, len(y))
	for i, n := range whole(y) {
		out[i] = ratio{n, one()}
		if !out[i].fits() {
			return y
		}
	}
	return out
}
