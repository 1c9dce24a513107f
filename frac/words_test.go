package frac

import (
	"math/big"
	"math/rand"
	"testing"
)

func toBig(a words) *big.Int {
	out := new(big.Int)
	for i := len(a) - 1; i >= 0; i-- {
		out.Lsh(out, wordBits)
		out.Or(out, big.NewInt(int64(a[i])))
	}
	return out
}

func fromBig(n *big.Int) words {
	var out words
	mask := big.NewInt(1<<wordBits - 1)
	for left := new(big.Int).Set(n); left.Sign() > 0; left.Rsh(left, wordBits) {
		out = append(out, uint32(new(big.Int).And(left, mask).Uint64()))
	}
	return out
}

// drawn is a number of up to so many words. Words of zeros, of ones and next to half are frequent, since carries and guesses of quotients go wrong there.
func drawn(r *rand.Rand, most int) words {
	out := make(words, r.Intn(most+1))
	for i := range out {
		switch r.Intn(6) {
		case 0:
			out[i] = 0
		case 1:
			out[i] = 1<<wordBits - 1
		case 2:
			out[i] = 1<<31 + uint32(r.Intn(3)) - 1
		default:
			out[i] = r.Uint32()
		}
	}
	return out.trim()
}

func expect(t *testing.T, what string, got words, want *big.Int, from ...words) {
	t.Helper()
	if !got.trimmed() || toBig(got).Cmp(want) != 0 {
		t.Fatalf("%s of %v is %v, want %v", what, from, got, fromBig(want))
	}
}

// checkPair holds every operation on two numbers against math/big.
func checkPair(t *testing.T, a, b words) {
	t.Helper()
	x, y := toBig(a), toBig(b)
	expect(t, "sum", a.add(b), new(big.Int).Add(x, y), a, b)
	expect(t, "product", a.mul(b), new(big.Int).Mul(x, y), a, b)
	expect(t, "gcd", a.gcd(b), new(big.Int).GCD(nil, nil, x, y), a, b)
	if got := a.compare(b); got != x.Cmp(y) {
		t.Fatalf("%v to %v: %d", a, b, got)
	}
	if a.compare(b) >= 0 {
		expect(t, "difference", a.sub(b), new(big.Int).Sub(x, y), a, b)
	}
	if b.isZero() {
		return
	}
	q, r := a.div(b)
	quotient, rest := new(big.Int).QuoRem(x, y, new(big.Int))
	expect(t, "quotient", q, quotient, a, b)
	expect(t, "rest", r, rest, a, b)
	if !a.isZero() {
		common := new(big.Int).GCD(nil, nil, x, y)
		expect(t, "lcm", a.lcm(b), x.Div(x.Mul(x, y), common), a, b)
	}
}

func TestWordsAgainstBig(t *testing.T) {
	r := rand.New(rand.NewSource(1))
	for range 20000 {
		checkPair(t, drawn(r, 6), drawn(r, 6))
	}
	for range 600 {
		checkPair(t, drawn(r, 60), drawn(r, 60))
	}
	for range 12 {
		checkPair(t, drawn(r, 4*karatsubaWords), drawn(r, 4*karatsubaWords))
		checkPair(t, drawn(r, 8*karatsubaWords), drawn(r, karatsubaWords+20))
	}
}

// TestGuesses has quotients whose first guess is too high: by Knuth, 4.3.1, such pairs are too rare to be drawn.
func TestGuesses(t *testing.T) {
	const top = 1<<wordBits - 1
	for _, c := range [][2]words{
		{{0, 0, 1 << 31}, {1, 1 << 31}},
		{{0, top - 1, 1 << 31}, {top, 1 << 31}},
		{{3, 0, 1 << 31}, {1, 0, 1 << 29}},
		{{0, 0, 1 << 31, top >> 1}, {1, 0, 1 << 31}},
		{{0, 0, 0, 1 << 31}, {1, 0, 1 << 31}},
		{{0, top, top - 1, top}, {top, top}},
		{{0, 0, 0, 1}, {top, top}},
		{{top, top, top, top, top}, {top, 0, top}},
	} {
		checkPair(t, c[0], c[1])
	}
	for a := uint32(0); a < 4; a++ {
		for b := uint32(0); b < 4; b++ {
			checkPair(t, words{a - 2, b - 2, 1<<31 - a, 1<<31 - 1 - b}, words{b - 2, a - 2, 1 << 31})
			checkPair(t, words{0, a - 2, b - 2, 1 << 31}, words{b - 1, a, 1<<31 + b})
		}
	}
}

// TestCommonDivisors has pairs with great common divisors, and pairs on which Euclid's algorithm takes longest.
func TestCommonDivisors(t *testing.T) {
	r := rand.New(rand.NewSource(2))
	for range 300 {
		g := drawn(r, 30)
		checkPair(t, drawn(r, 30).mul(g), drawn(r, 30).mul(g))
	}
	a, b := one(), one()
	for range 3000 {
		a, b = a.add(b), a
	}
	checkPair(t, a, b)
	checkPair(t, a, a)
	checkPair(t, a.mul(b), b.mul(b))
	for _, n := range []int{3, 5, 40} {
		power := append(make(words, n), 1)
		checkPair(t, power, power.sub(one()))
		checkPair(t, power.add(one()), power.sub(one()))
		checkPair(t, power.mul(power), power)
	}
}

func TestShared(t *testing.T) {
	a := words{1, 2, 3, 4}
	low, high := a.cut(2)
	low = append(low, 9)
	if a[2] != 3 || len(high) != 2 || high[0] != 3 || low[2] != 9 {
		t.Error("a part grows into the other one:", a, low, high)
	}
}
