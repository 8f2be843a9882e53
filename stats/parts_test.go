package stats_test

import (
	"fmt"
	"math"
	"slices"
	"testing"

	"coppice/api"
	"coppice/stats"
	"coppice/tree"
)

// partsRefused asks for ErrParts, and no part.
func partsRefused(t *testing.T, what string, x *tree.Tree, n int) {
	t.Helper()
	if l, err := stats.Parts(x, n); err != api.ErrParts || len(l) != 0 {
		t.Errorf("%s: Parts of %d are %v, %d", what, n, l, err)
	}
}

// TestP22_3Examples: the chapter's.
func TestP22_3Examples(t *testing.T) {
	two := letters(t, 1, 1)
	partsAre(t, "two", two, 1, []int{1})
	partsAre(t, "two", two, 4, []int{1, 0, 0, 0})
	partsRefused(t, "two", two, 0)
	partsAre(t, "empty", tree.Empty(), 2, []int{0, 0})
}

// TestP22_3Errors: n is 1 to 1000, of any tree.
func TestP22_3Errors(t *testing.T) {
	for what, x := range map[string]*tree.Tree{"empty": tree.Empty(), "two": letters(t, 1, 1), "full": rowOf(t, 4092, 4092)} {
		for _, n := range []int{0, -1, -1000, 1001, 1002, 4092, 1 << 32, 1<<32 + 1, math.MaxInt, math.MinInt} {
			partsRefused(t, what, x, n)
		}
		for _, n := range []int{1, 2, 999, 1000} {
			partsAre(t, what, x, n, plainParts(plainSizes(x.Nodes(), 0), n))
		}
	}
}

// TestP22_3Edges: where a part ends and the next one begins; a leaf that is just full belongs to the last one.
func TestP22_3Edges(t *testing.T) {
	for _, c := range []struct{ size, n, part int }{
		{4092, 1, 0}, {4092, 2, 1}, {4092, 1000, 999}, {4091, 1000, 999}, {4088, 1000, 999}, {4087, 1000, 998},
		{2045, 2, 0}, {2046, 2, 1}, {1022, 4, 0}, {1023, 4, 1}, {3068, 4, 2}, {3069, 4, 3},
		{1363, 3, 0}, {1364, 3, 1}, {2727, 3, 1}, {2728, 3, 2}, {681, 6, 0}, {682, 6, 1}, {681, 1000, 166},
		{3999, 341, 333}, {4000, 341, 333}, {4007, 341, 333}, {4008, 341, 334},
	} {
		want := make([]int, c.n)
		want[c.part] = 1
		partsAre(t, fmt.Sprint("a leaf of ", c.size), rowOf(t, c.size), c.n, want)
	}
}

// TestP22_3Least: the least leaf has 9 bytes: it belongs to the first part of 454, to the second of 455.
func TestP22_3Least(t *testing.T) {
	for n := 1; n <= 1000; n++ {
		want := make([]int, n)
		want[n*9/4092] = 1
		partsAre(t, "the least leaf", letters(t, 0), n, want)
	}
}

// TestP22_3Sizes: leaves of all sizes from 600 on, in some numbers of parts.
func TestP22_3Sizes(t *testing.T) {
	t.Parallel()
	for size := 600; size <= 4092; size++ {
		x := rowOf(t, size)
		for _, n := range []int{1, 2, 3, 10, 341, 1000} {
			partsAre(t, fmt.Sprint("a leaf of ", size), x, n, plainParts([]int{size}, n))
		}
	}
}

// TestP22_3Numbers: all numbers of parts, of a row that has leaves at both ends.
func TestP22_3Numbers(t *testing.T) {
	t.Parallel()
	sizes := append(anySizes(noise(223), 20), 4092, 4092, 4091, 600, 4000, 2046, 2045)
	x := rowOf(t, sizes...)
	for n := 1; n <= 1000; n++ {
		partsAre(t, "a row", x, n, plainParts(sizes, n))
	}
}

// TestP22_3Leaves: only leaves count, neither branches nor chains.
func TestP22_3Leaves(t *testing.T) {
	nine := letters(t, 500, 500, 500, 500, 500, 500, 500, 500, 500)
	partsAre(t, "nine", nine, 2, []int{1, 1})
	partsAre(t, "nine", nine, 1, []int{2})
	partsAre(t, "a long chain", with(t, tree.Empty(), "k", 262144), 3, []int{1, 0, 0})
}

// TestP22_3Any: trees of all kinds.
func TestP22_3Any(t *testing.T) {
	t.Parallel()
	for _, g := range groves(t) {
		sizes := plainSizes(g.x.Nodes(), 0)
		for _, n := range []int{1, 2, 7, 10, 100, 999, 1000} {
			partsAre(t, g.name, g.x, n, plainParts(sizes, n))
		}
		if l, _ := stats.Parts(g.x, 1); !slices.Equal(l, []int{len(sizes)}) {
			t.Errorf("%s: %v in one part, not %d", g.name, l, len(sizes))
		}
	}
}
