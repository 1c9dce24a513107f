package hall_test

import (
	"math"
	"math/rand"
	"slices"
	"testing"

	"unbent/api"
	"unbent/hall"
)

func drawInts(r *rand.Rand, n, most int) []int {
	var out []int
	for range n {
		out = append(out, r.Intn(2*most+1)-most)
	}
	return out
}

func median(t *testing.T, peaks, phantoms []int) int {
	t.Helper()
	m, e := hall.Median(peaks, phantoms)
	if e != api.OK {
		t.Fatal("Median", peaks, phantoms, e)
	}
	return m
}

// isMiddle reports whether m is the middle one of an odd number: it is among them, and fewer than half are below, and fewer than half above.
func isMiddle(m int, all []int) bool {
	below, above := 0, 0
	for _, one := range all {
		if one < m {
			below++
		}
		if one > m {
			above++
		}
	}
	return slices.Contains(all, m) && 2*below < len(all) && 2*above < len(all)
}

// P7.1: Median.
func TestMedian(t *testing.T) {
	r := rand.New(rand.NewSource(51))
	for i := range 2000 {
		n := 1 + r.Intn(9)
		if i < 5 {
			n = 1000 - i
		}
		peaks, phantoms := drawInts(r, n, 1+r.Intn(9)), drawInts(r, n-1, 1+r.Intn(9))
		if m := median(t, peaks, phantoms); !isMiddle(m, slices.Concat(peaks, phantoms)) {
			t.Fatal("Median", peaks, phantoms, m)
		}
	}
	if m := median(t, []int{math.MaxInt, math.MinInt, math.MaxInt}, []int{math.MinInt, math.MinInt}); m != math.MinInt {
		t.Error("of the greatest and the least number", m)
	}
	if m := median(t, []int{math.MaxInt, math.MinInt, -1}, []int{math.MinInt, math.MaxInt}); m != -1 {
		t.Error("between the greatest and the least number", m)
	}
}

// P7.7: what comes out truly lies between one's peak and what comes out by a lie.
func TestMedianLies(t *testing.T) {
	r := rand.New(rand.NewSource(52))
	for range 1000 {
		n := 1 + r.Intn(6)
		peaks, phantoms := drawInts(r, n, 4), drawInts(r, n-1, 5)
		told := median(t, peaks, phantoms)
		for agent, peak := range peaks {
			for lie := -6; lie <= 6; lie++ {
				got := median(t, with(peaks, agent, lie), phantoms)
				if told < min(peak, got) || told > max(peak, got) {
					t.Fatal("a lie gains", peaks, phantoms, agent, lie, told, got)
				}
			}
		}
	}
}

func TestWrongPeaks(t *testing.T) {
	for _, c := range []struct {
		peaks, phantoms int
		e               api.Errno
	}{
		{0, 0, api.ErrList}, {0, 1, api.ErrList}, {1, 1, api.ErrList}, {2, 0, api.ErrList}, {2, 2, api.ErrList}, {3, 1, api.ErrList}, {2, 5000, api.ErrList},
		{1000, 1000, api.ErrList}, {1000, 998, api.ErrList}, {1001, 1000, api.ErrSize}, {1001, 0, api.ErrSize}, {5000, 4999, api.ErrSize},
	} {
		peaks, phantoms := slices.Repeat([]int{3}, c.peaks), slices.Repeat([]int{3}, c.phantoms)
		if m, e := hall.Median(peaks, phantoms); m != 0 || e != c.e {
			t.Error(c.peaks, "peaks and", c.phantoms, "phantoms:", m, e)
		}
	}
	if m := median(t, slices.Repeat([]int{3}, 1000), slices.Repeat([]int{3}, 999)); m != 3 {
		t.Error("1000 peaks", m)
	}
}
