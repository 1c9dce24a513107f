package plane

import (
	"math"
	"math/big"
	"math/rand"
	"testing"

	"unbent/api"
	"unbent/frac"
)

// toBig is n, computed by math/big alone.
func toBig(n number) *big.Int {
	if n.isShort() {
		return big.NewInt(n.value)
	}
	out := new(big.Int)
	for i := len(n.limbs) - 1; i >= 0; i-- {
		out.Lsh(out, 64)
		out.Or(out, new(big.Int).SetUint64(n.limbs[i]))
	}
	return out.Mul(out, big.NewInt(n.value))
}

// drawNumber is a number of up to so many bits, often one with many equal bits, or one at the edge between short and long.
func drawNumber(r *rand.Rand, bits int) number {
	n := new(big.Int).Rand(r, new(big.Int).Lsh(big.NewInt(1), uint(1+r.Intn(bits))))
	switch r.Intn(6) {
	case 0:
		n.Lsh(big.NewInt(1), uint(r.Intn(bits)))
		n.Sub(n, big.NewInt(int64(r.Intn(2))))
	case 1:
		n.SetInt64(math.MaxInt64)
		n.Add(n, big.NewInt(int64(r.Intn(4)-2)))
	}
	var words []uint32
	for left := n; left.Sign() > 0; left = new(big.Int).Rsh(left, 32) {
		words = append(words, uint32(new(big.Int).And(left, big.NewInt(1<<32-1)).Uint64()))
	}
	return sized(ofWords(words), r.Intn(2) == 0)
}

// holdsAs fails if n is not what math/big says, or not in its one form: short if it can be, without a zero limb last.
func holdsAs(t *testing.T, what string, n number, want *big.Int) {
	t.Helper()
	if toBig(n).Cmp(want) != 0 {
		t.Fatal(what, "is", n, "not", want)
	}
	fits := new(big.Int).Abs(want).Cmp(big.NewInt(math.MaxInt64)) <= 0
	if n.isShort() != fits || n.sign() != want.Sign() || !fits && (n.limbs[len(n.limbs)-1] == 0 || n.value*n.value != 1) {
		t.Fatal(what, "has a wrong form:", n)
	}
}

func TestNumbers(t *testing.T) {
	r := rand.New(rand.NewSource(1))
	for i := range 60000 {
		a, b := drawNumber(r, 8+i%600), drawNumber(r, 8+i%400)
		x, y := toBig(a), toBig(b)
		holdsAs(t, "a", a, x)
		holdsAs(t, "-a", a.neg(), new(big.Int).Neg(x))
		holdsAs(t, "a * b", a.times(b), new(big.Int).Mul(x, y))
		holdsAs(t, "a - b", a.minus(b), new(big.Int).Sub(x, y))
		holdsAs(t, "b - a", b.minus(a), new(big.Int).Sub(y, x))
		g := new(big.Int).GCD(nil, nil, new(big.Int).Abs(x), new(big.Int).Abs(y))
		holdsAs(t, "gcd", a.gcd(b), g)
		if a.larger(b) != (x.CmpAbs(y) > 0) {
			t.Fatal(x, "is larger than", y, "not as it should")
		}
		if b.sign() < 0 {
			b, y = b.neg(), new(big.Int).Neg(y)
		}
		if b.sign() == 0 {
			continue
		}
		quotient, rest := a.div(b)
		q, m := new(big.Int).QuoRem(x, y, new(big.Int))
		holdsAs(t, "a / b", quotient, q)
		holdsAs(t, "the rest", rest, m)
		holdsAs(t, "a * b / b", a.times(b).over(b), x)
		holdsAs(t, "common divisor", a.times(b).gcd(b.times(short(6))), new(big.Int).Mul(y, new(big.Int).GCD(nil, nil, new(big.Int).Abs(x), big.NewInt(6))))
	}
}

// The divisors of numbers that are longer than fractions may be, and at that edge.
func TestLongDivisors(t *testing.T) {
	r := rand.New(rand.NewSource(7))
	for _, sizes := range [][3]int{{900, 1100, 300}, {512, 512, 0}, {512, 511, 1}, {1024, 1025, 0}, {700, 2, 400}, {3, 1500, 1}, {0, 1500, 700}} {
		draw := func(limbs int) number {
			n := short(1)
			for range limbs {
				n = n.times(short(r.Int() | 1<<62))
			}
			return n
		}
		g := draw(sizes[2])
		a, b := draw(sizes[0]).times(g), draw(sizes[1]).times(g).neg()
		holdsAs(t, "gcd", a.gcd(b), new(big.Int).GCD(nil, nil, toBig(a), toBig(b.neg())))
	}
}

// Quotients whose guesses are at their edges: many bits set, and none behind them.
func TestGuesses(t *testing.T) {
	edges := []uint64{0, 1, 2, 1 << 32, 1<<63 - 1, 1 << 63, 1<<63 + 1, math.MaxUint64 - 1, math.MaxUint64}
	r := rand.New(rand.NewSource(2))
	for range 200000 {
		var a, b limbs
		for range 2 + r.Intn(4) {
			a = append(a, edges[r.Intn(len(edges))])
		}
		for range 1 + r.Intn(3) {
			b = append(b, edges[r.Intn(len(edges))])
		}
		n, m := sized(a.trim(), false), sized(b.trim(), false)
		if m.sign() == 0 {
			continue
		}
		quotient, rest := n.div(m)
		q, w := new(big.Int).QuoRem(toBig(n), toBig(m), new(big.Int))
		holdsAs(t, "quotient", quotient, q)
		holdsAs(t, "rest", rest, w)
		holdsAs(t, "gcd", n.gcd(m), new(big.Int).GCD(nil, nil, toBig(n), toBig(m)))
	}
}

// drawRough is a program whose numbers may have any length.
func drawRough(r *rand.Rand) api.Prog {
	most := 1 << (1 + r.Intn(31))
	draw := func() api.Frac {
		f, _ := frac.Make(r.Intn(2*most)-most, 1+r.Intn(1+most*r.Intn(2)))
		if r.Intn(3) == 0 {
			f = integer(0)
		}
		return f
	}
	p := api.Prog{Vars: 1 + r.Intn(9)}
	for range p.Vars {
		p.Free = append(p.Free, r.Intn(5) == 0)
		p.Goal = append(p.Goal, draw())
	}
	for range r.Intn(12) {
		w := api.Row{Sense: r.Intn(3) - 1, B: draw()}
		for range p.Vars {
			w.A = append(w.A, draw())
		}
		p.Rows = append(p.Rows, w)
	}
	return p
}

// A rough table may come to what is wrong: then it is not taken. However rough it is, what is told is judged right.
func TestRough(t *testing.T) {
	r := rand.New(rand.NewSource(3))
	rough, wrong := 0, 0
	for range 2000 {
		p := drawRough(r)
		table := newTable(p, 1)
		told := table.solve()
		if table.rough {
			rough++
			if !Judge(p, table.corner(p).proof(told)) {
				wrong++
			}
		}
		if c := table.certify(p, told); !Judge(p, c) {
			t.Fatal(p, "is told", c)
		}
	}
	if rough < 300 || wrong < 100 {
		t.Error("too few rough tables, or too few wrong ones:", rough, wrong)
	}
}

// An exact table is never rough, and comes to what is right by itself.
func TestExact(t *testing.T) {
	r := rand.New(rand.NewSource(4))
	for range 500 {
		p := drawRough(r)
		table := newTable(p, exactly)
		told := table.solve()
		if table.rough || !Judge(p, table.corner(p).proof(told)) {
			t.Fatal(p, "is told", told)
		}
	}
}

// A line that is cut keeps the proportions of its large numbers, and a number of its own above 0.
func TestCut(t *testing.T) {
	long := sized(limbs{1, 2, 3, 4}, false)
	l := line{long, short(5), long.times(short(-2)), sized(limbs{0, 0, 7}, true), short(1)}
	cut := l.cut(2)
	if cut.limbs() != 2 || cut[0].limbs.compare(limbs{3, 4}) != 0 || cut[1].sign() != 0 || cut[2].limbs.compare(limbs{6, 8}) != 0 || cut[2].sign() > 0 || cut[3].sign() != 0 || cut.own().sign() <= 0 {
		t.Error("a line is cut to", cut)
	}
}
