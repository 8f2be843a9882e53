package stats_test

import (
	"fmt"
	"math"
	"slices"
	"testing"

	"coppice/api"
	"coppice/stats"
	"coppice/tree"
)

// quantileRefused asks for an error of Quantile, and 0 beside it.
func quantileRefused(t *testing.T, what string, x *tree.Tree, q float64, err api.Errno) {
	t.Helper()
	if f, e := stats.Quantile(x, q); e != err || !sameBits(f, 0) {
		t.Errorf("%s: Quantile of %v is %v, %d, not 0, %d", what, q, f, e, err)
	}
}

// TestP22_4Examples: the chapter's.
func TestP22_4Examples(t *testing.T) {
	two, empty := letters(t, 1, 1), tree.Empty()
	quantileIs(t, "two", two, 0.5, 16.0/4092)
	quantileRefused(t, "two", two, -0.1, api.ErrQuantile)
	quantileRefused(t, "empty", empty, 0.5, api.ErrNone)
	quantileRefused(t, "empty", empty, 2, api.ErrQuantile)
}

// wrongShares are no shares: no numbers, or outside of 0 to 1, if only by one float.
func wrongShares() []float64 {
	return []float64{
		math.NaN(), -math.NaN(), math.Float64frombits(0x7ff0000000000001), math.Float64frombits(0xffffffffffffffff),
		math.Inf(1), math.Inf(-1), -math.SmallestNonzeroFloat64, -1e-300, -0.1, -1, -math.MaxFloat64,
		math.Nextafter(1, 2), 1.5, 2, 4092, 1 << 62, math.MaxFloat64,
	}
}

// TestP22_4Errors: what is no share is refused, of the empty tree too; any share of the empty tree has none.
func TestP22_4Errors(t *testing.T) {
	row := rowOf(t, 2000, 4092, 3000)
	for _, q := range wrongShares() {
		quantileRefused(t, "two", letters(t, 1, 1), q, api.ErrQuantile)
		quantileRefused(t, "a row", row, q, api.ErrQuantile)
		quantileRefused(t, "empty", tree.Empty(), q, api.ErrQuantile)
	}
	for _, q := range shares(noise(2240), 20) {
		quantileRefused(t, "empty", tree.Empty(), q, api.ErrNone)
	}
	gone, _ := letters(t, 500).Without([]byte("a"))
	quantileRefused(t, "emptied", gone, 0, api.ErrNone)
}

// shares are those at the edges, and n by noise: some all over, some that are very small, some very near to 1.
func shares(next func(int) int, n int) []float64 {
	l := []float64{
		0, math.Copysign(0, -1), math.SmallestNonzeroFloat64, 0x1p-1022, 1e-300, 0x1p-53, 1e-9,
		0.1, 0.25, 1.0 / 3, math.Nextafter(0.5, 0), 0.5, math.Nextafter(0.5, 1), 2.0 / 3, 0.75, 0.9, 1 - 0x1p-52, math.Nextafter(1, 0), 1,
	}
	for range n {
		q := float64(next(1<<30)<<23+next(1<<23)) / 0x1p53
		l = append(l, q, q*0x1p-30, 1-q*0x1p-30)
	}
	return l
}

// TestP22_4Ends: at 0, which -0 is too, the least leaf; at 1 the greatest; of one leaf always that one.
func TestP22_4Ends(t *testing.T) {
	for _, sizes := range [][]int{{2000, 3000}, {3000, 2000}, {4092, 600, 4092}, {2999, 601, 2999, 4000, 3500}, {2500, 2500, 2500}} {
		x, what := rowOf(t, sizes...), fmt.Sprint(sizes)
		least, most := plainF(slices.Min(sizes))/4092, plainF(slices.Max(sizes))/4092
		quantileIs(t, what, x, 0, least)
		quantileIs(t, what, x, math.Copysign(0, -1), least)
		quantileIs(t, what, x, 1, most)
	}
	for _, q := range shares(noise(2241), 20) {
		quantileIs(t, "one leaf", rowOf(t, 2222), q, 2222.0/4092)
		quantileIs(t, "the least leaf", letters(t, 0), q, 9.0/4092)
		quantileIs(t, "a full leaf", rowOf(t, 4092), q, 1)
		quantileIs(t, "three that are alike", rowOf(t, 2500, 2500, 2500), q, 2500.0/4092)
	}
}

// TestP22_4Between: between two leaves, by size, not as they stand in the tree.
func TestP22_4Between(t *testing.T) {
	x := rowOf(t, 4000, 2000, 3000, 2500, 3500)
	for q, size := range map[float64]float64{0: 2000, 0.25: 2500, 0.5: 3000, 0.75: 3500, 1: 4000, 0.125: 2250, 0.0625: 2125, 0.375: 2750, 0.9375: 3875} {
		quantileIs(t, "five", x, q, size/4092)
	}
	uneven := rowOf(t, 2000, 4000, 4092)
	for q, size := range map[float64]float64{0: 2000, 0.25: 3000, 0.5: 4000, 0.75: 4046, 1: 4092} {
		quantileIs(t, "uneven", uneven, q, size/4092)
	}
	nine := letters(t, 500, 500, 500, 500, 500, 500, 500, 500, 500)
	quantileIs(t, "nine", nine, 0.25, (2028+126.5)/4092)
}

// fused is the answer if products went unrounded into what they are added to: the first into p - F(i), the second into the sum.
func fused(sizes []int, q float64, first, second bool) float64 {
	s := slices.Sorted(slices.Values(sizes))
	last := float64(len(s) - 1)
	p := float64(q * last)
	i := int(p)
	if i == len(s)-1 {
		return float64(s[i]) / 4092
	}
	f := p - float64(i)
	if first {
		f = math.FMA(q, last, -float64(i))
	}
	a, d := float64(s[i]), float64(s[i+1]-s[i])
	sum := a + float64(f*d)
	if second {
		sum = math.FMA(f, d, a)
	}
	return sum / 4092
}

// TestP22_4Rounded: each step is rounded by itself; among the answers are such as would be others if a product were not.
func TestP22_4Rounded(t *testing.T) {
	t.Parallel()
	next := noise(2242)
	first, second := 0, 0
	for range 60 {
		sizes := anySizes(next, 2+next(30))
		x := rowOf(t, sizes...)
		for _, q := range shares(next, 12) {
			want := plainQuantile(sizes, q)
			quantileIs(t, "a row", x, q, want)
			if fused(sizes, q, true, false) != want {
				first++
			}
			if fused(sizes, q, false, true) != want {
				second++
			}
			if fused(sizes, q, false, false) != want {
				t.Errorf("%v at %v: the plain reckonings are not one", sizes, q)
			}
		}
	}
	if first == 0 || second == 0 {
		t.Errorf("the rounding of the first product is seen %d times, that of the second %d times", first, second)
	}
}

// TestP22_4Whole: shares at which p comes to a whole number, or nearly.
func TestP22_4Whole(t *testing.T) {
	t.Parallel()
	next := noise(2243)
	for _, n := range []int{2, 3, 4, 7, 10, 50, 100} {
		sizes := anySizes(next, n)
		x := rowOf(t, sizes...)
		for i := range n {
			q := float64(i) / float64(n-1)
			for _, near := range []float64{math.Nextafter(q, 0), q, math.Nextafter(q, 1)} {
				quantileIs(t, fmt.Sprint("a row of ", n), x, near, plainQuantile(sizes, near))
			}
		}
	}
}

// TestP22_4Any: trees of all kinds.
func TestP22_4Any(t *testing.T) {
	t.Parallel()
	next := noise(2244)
	for _, g := range groves(t) {
		sizes := plainSizes(g.x.Nodes(), 0)
		for _, q := range shares(next, 2) {
			if len(sizes) == 0 {
				quantileRefused(t, g.name, g.x, q, api.ErrNone)
				continue
			}
			quantileIs(t, g.name, g.x, q, plainQuantile(sizes, q))
		}
	}
}
