package frac_test

import (
	"math/big"
	"math/rand"
	"testing"

	"unbent/api"
	"unbent/frac"
)

// slowSolve solves a system with math/big as on paper: the steps, and the solution if there is one.
func slowSolve(rows [][]api.Frac, right []api.Frac) (steps []int, x []*big.Rat) {
	columns := len(rows[0])
	table := make([][]*big.Rat, len(rows))
	for i, row := range rows {
		for _, f := range append(append([]api.Frac{}, row...), right[i]) {
			table[i] = append(table[i], toRat(frac.Fix(f)))
		}
	}
	for column := range columns {
		top := len(steps)
		at := top
		for at < len(table) && table[at][column].Sign() == 0 {
			at++
		}
		if at == len(table) {
			continue
		}
		table[top], table[at] = table[at], table[top]
		for i := range table {
			if i == top || table[i][column].Sign() == 0 {
				continue
			}
			factor := new(big.Rat).Quo(table[i][column], table[top][column])
			for j := range table[i] {
				table[i][j] = new(big.Rat).Sub(table[i][j], new(big.Rat).Mul(factor, table[top][j]))
			}
		}
		steps = append(steps, column)
	}
	for _, row := range table[len(steps):] {
		if row[columns].Sign() != 0 {
			return steps, nil
		}
	}
	x = make([]*big.Rat, columns)
	for j := range x {
		x[j] = new(big.Rat)
	}
	for i, column := range steps {
		x[column].Quo(table[i][columns], table[i][column])
	}
	return steps, x
}

// checkProof holds y against what a proof is, with math/big alone.
func checkProof(t *testing.T, rows [][]api.Frac, right, y []api.Frac) {
	t.Helper()
	if len(y) != len(rows) {
		t.Fatal("a proof for", len(rows), "rows:", y)
	}
	for j := range len(rows[0]) + 1 {
		total := new(big.Rat)
		for i, row := range rows {
			f := append(append([]api.Frac{}, row...), right[i])[j]
			total.Add(total, new(big.Rat).Mul(toRat(y[i]), toRat(frac.Fix(f))))
		}
		if (total.Sign() != 0) != (j == len(rows[0])) {
			t.Fatal("no proof: at column", j, "the sum is", total)
		}
	}
}

// checkSystem holds Linear and Rank against slowSolve.
func checkSystem(t *testing.T, rows [][]api.Frac, right []api.Frac) {
	t.Helper()
	steps, solution := slowSolve(rows, right)
	if n, e := frac.Rank(rows); n != len(steps) || e != api.OK {
		t.Fatalf("rank %d, %d, want %d", n, e, len(steps))
	}
	x, y, ok, e := frac.Linear(rows, right)
	if e != api.OK || ok != (solution != nil) {
		t.Fatal("solved:", ok, e)
	}
	for _, f := range append(append([]api.Frac{}, x...), y...) {
		if !frac.Right(f) {
			t.Fatal("a number that is not right:", f)
		}
	}
	if !ok {
		if len(x) != 0 {
			t.Fatal("a solution beside a proof:", x)
		}
		checkProof(t, rows, right, y)
		return
	}
	if len(y) != 0 || len(x) != len(solution) {
		t.Fatal("lengths:", len(x), len(y))
	}
	for j, r := range solution {
		want(t, "a number of the solution", x[j], r)
	}
}

// P1.5 (systems), P1.6 (rank): all systems of two rows and columns of few numbers.
func TestSmallSystems(t *testing.T) {
	numbers := []int{-1, 0, 2}
	for code := range 729 {
		var n [6]api.Frac
		for i := range n {
			n[i] = make1(numbers[code%3])
			code /= 3
		}
		checkSystem(t, matrix(n[0:2], n[2:4]), n[4:6])
		checkSystem(t, matrix(n[0:1], n[1:2], n[2:3]), n[3:6])
		checkSystem(t, matrix(n[0:5]), n[5:6])
	}
}

func TestDrawnSystems(t *testing.T) {
	r := rand.New(rand.NewSource(9))
	for i := range 1500 {
		height, width := 1+r.Intn(6), 1+r.Intn(6)
		rows, right := make([][]api.Frac, height), make([]api.Frac, height)
		for i := range rows {
			for range width {
				if r.Intn(3) == 0 {
					rows[i] = append(rows[i], make1(0))
				} else {
					rows[i] = append(rows[i], ratio(r.Intn(9)-4, 1+r.Intn(4)))
				}
			}
			right[i] = ratio(r.Intn(5)-2, 1+r.Intn(3))
		}
		if i%2 == 0 && height > 2 { // a row that hangs on two others, on the right or nearly so
			for j := range rows[0] {
				rows[2][j] = frac.Sub(frac.Mul(make1(3), rows[0][j]), rows[1][j])
			}
			right[2] = frac.Add(frac.Sub(frac.Mul(make1(3), right[0]), right[1]), make1(i/2%2))
		}
		checkSystem(t, rows, right)
	}
}

func TestNamedSystems(t *testing.T) {
	checkSystem(t, matrix(wholes(0, 2, 4)), wholes(6))
	checkSystem(t, matrix(wholes(1, 1), wholes(1, 1)), wholes(2, 3))
	checkSystem(t, matrix(wholes(0, 0, 0)), wholes(0))
	checkSystem(t, matrix(wholes(0, 0, 0)), wholes(1))
	checkSystem(t, matrix(wholes(0, 0, 0), wholes(0, 0, 5)), wholes(0, 1))
	x, _, ok, _ := frac.Linear(matrix(wholes(0, 2, 4)), wholes(6))
	if !ok || frac.Print(x[0]) != "0" || frac.Print(x[1]) != "3" || frac.Print(x[2]) != "0" {
		t.Error("0 2 4 = 6:", x)
	}
}

func TestSystemsOfWrong(t *testing.T) {
	for _, f := range wrongs() {
		checkSystem(t, matrix([]api.Frac{f, make1(2)}, []api.Frac{make1(1), f}), []api.Frac{make1(3), f})
		checkSystem(t, matrix([]api.Frac{f}), wholes(1))
	}
}

// Systems without rows or columns.
func TestEmptySystems(t *testing.T) {
	x, y, ok, e := frac.Linear(nil, nil)
	if len(x) != 0 || len(y) != 0 || !ok || e != api.OK {
		t.Error("no rows:", x, y, ok, e)
	}
	none := make([][]api.Frac, 2)
	x, y, ok, e = frac.Linear(none, wholes(0, 0))
	if len(x) != 0 || len(y) != 0 || !ok || e != api.OK {
		t.Error("no columns:", x, y, ok, e)
	}
	x, y, ok, e = frac.Linear(none, wholes(0, -4))
	if len(x) != 0 || ok || e != api.OK {
		t.Error("no columns, no solution:", x, ok, e)
	}
	checkProof(t, none, wholes(0, -4), y)
	for _, rows := range [][][]api.Frac{nil, {}, none} {
		if n, e := frac.Rank(rows); n != 0 || e != api.OK {
			t.Error("rank of nothing:", n, e)
		}
	}
}

// square is a matrix of so many rows and columns.
func square(height, width int, entry func(i, j int) api.Frac) [][]api.Frac {
	rows := make([][]api.Frac, height)
	for i := range rows {
		for j := range width {
			rows[i] = append(rows[i], entry(i, j))
		}
	}
	return rows
}

// P1.5, P1.6: the errors, in their order.
func TestSystemErrors(t *testing.T) {
	entry := func(i, j int) api.Frac { return make1(i - j) }
	most := api.SolveVars
	ragged := square(most+1, 2, entry)
	ragged[most] = ragged[most][:1]
	for i, c := range []struct {
		rows  [][]api.Frac
		right []api.Frac
		e     api.Errno
	}{
		{nil, wholes(1), api.ErrForm},
		{square(2, 2, entry), wholes(1), api.ErrForm},
		{square(2, 2, entry), wholes(1, 2, 3), api.ErrForm},
		{matrix(wholes(1), wholes(1, 2)), wholes(1, 2), api.ErrForm},
		{matrix(nil, wholes(1)), wholes(1, 2), api.ErrForm},
		{ragged, make([]api.Frac, most+1), api.ErrForm},
		{square(most+1, 1, entry), wholes(1), api.ErrForm},
		{square(most+1, 1, entry), make([]api.Frac, most+1), api.ErrSize},
		{square(most+1, 0, entry), make([]api.Frac, most+1), api.ErrSize},
		{square(1, most+1, entry), wholes(1), api.ErrSize},
		{square(most, 1, entry), make([]api.Frac, most), api.OK},
		{square(1, most, entry), wholes(1), api.OK},
	} {
		x, y, ok, e := frac.Linear(c.rows, c.right)
		if e != c.e || e != api.OK && (x != nil || y != nil || ok) {
			t.Error(i, "Linear:", x, y, ok, e)
		}
		e = c.e
		if e == api.ErrForm {
			continue
		}
		if n, got := frac.Rank(c.rows); got != e || e != api.OK && n != 0 {
			t.Error(i, "Rank:", n, got)
		}
	}
	if n, e := frac.Rank(ragged); n != 0 || e != api.ErrForm {
		t.Error("Rank of ragged rows:", n, e)
	}
}

// The greatest systems, with a solution that is known, and without one.
func TestGreatSystems(t *testing.T) {
	r := rand.New(rand.NewSource(10))
	most := api.SolveVars
	rows := square(most, most, func(i, j int) api.Frac { return make1(r.Intn(19) - 9) })
	hilbert := square(most, most, func(i, j int) api.Frac { return ratio(1, i+j+1) })
	for _, rows := range [][][]api.Frac{rows, hilbert} {
		var known, right []api.Frac
		for j := range most {
			known = append(known, ratio(j-30, 1+j%5))
		}
		for _, row := range rows {
			right = append(right, frac.Dot(row, known))
		}
		x, y, ok, e := frac.Linear(rows, right)
		if !ok || e != api.OK || len(y) != 0 {
			t.Fatal("no solution:", ok, e)
		}
		for j := range x {
			if !same(x[j], known[j]) {
				t.Fatal("another solution at", j, frac.Print(x[j]), frac.Print(known[j]))
			}
		}
		for j := range rows[0] {
			rows[0][j] = frac.Sub(rows[5][j], rows[6][j])
		}
		if n, e := frac.Rank(rows); n != most-1 || e != api.OK {
			t.Fatal("rank", n, e)
		}
		_, y, ok, e = frac.Linear(rows, right)
		if ok || e != api.OK {
			t.Fatal("a solution", e)
		}
		checkProof(t, rows, right, y)
	}
}

// Long numbers in systems: a number of the solution that is too long is 0, the others are told.
func TestLongSystems(t *testing.T) {
	long := ones(2100)
	other := frac.Add(power(2100), make1(2))
	checkSystem(t, matrix([]api.Frac{long, make1(0)}, []api.Frac{make1(0), other}), []api.Frac{other, other})
	checkSystem(t, matrix([]api.Frac{long}, []api.Frac{other}), []api.Frac{make1(3), make1(1)})
	checkSystem(t, matrix([]api.Frac{long, other}, []api.Frac{other, long}), []api.Frac{other, long})
}

// A proof of whole numbers would be too long here, one of fractions is not.
func TestLongProof(t *testing.T) {
	a, b, c, none := ones(2100), frac.Add(power(2100), make1(2)), frac.Add(power(2100), make1(4)), make1(0)
	rows := matrix([]api.Frac{a, none}, []api.Frac{frac.Neg(b), b}, []api.Frac{none, frac.Neg(c)})
	checkSystem(t, rows, []api.Frac{a, none, none})
}
