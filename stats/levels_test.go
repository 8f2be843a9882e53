package stats_test

import (
	"fmt"
	"math"
	"testing"

	"coppice/stats"
	"coppice/tree"
)

// TestP22_2Examples: the chapter's, and those whose sizes chapter 10 tells.
func TestP22_2Examples(t *testing.T) {
	levelsAre(t, "two", letters(t, 1, 1), []stats.Level{{Nodes: 1, Used: 16, Least: 16, Most: 16, Mean: 16.0 / 4092}})
	levelsAre(t, "empty", tree.Empty(), nil)
	levelsAre(t, "nine", letters(t, 500, 500, 500, 500, 500, 500, 500, 500, 500), []stats.Level{
		{Nodes: 2, Used: 4562, Least: 2028, Most: 2534, Mean: 4562.0 / 8184, Spread: 253.0 / 4092},
		{Level: 1, Nodes: 1, Used: 25, Least: 25, Most: 25, Mean: 25.0 / 4092},
	})
}

// TestP22_2Emptied: a tree out of which all has been taken has no level.
func TestP22_2Emptied(t *testing.T) {
	x, _ := letters(t, 500).Without([]byte("a"))
	levelsAre(t, "emptied", x, nil)
}

// TestP22_2RoundedDown: what the sizes are held against is Used / Nodes, rounded down, so leaves that are hardly unlike have a Spread above 0.
func TestP22_2RoundedDown(t *testing.T) {
	for _, c := range []struct {
		sizes   []int
		squares float64
	}{
		{[]int{2000, 2000}, 0},
		{[]int{2000, 2001}, 1},             // against 2000, not 2000.5
		{[]int{2001, 2000}, 1},             // the order is nothing
		{[]int{2000, 2003}, 1 + 4},         // 2001
		{[]int{2000, 2000, 2001}, 1},       // 2000
		{[]int{2000, 2001, 2001}, 2},       // 2000
		{[]int{2000, 2001, 2002}, 2},       // 2001
		{[]int{2028, 2529}, 62500 + 63001}, // 2278
		{[]int{4092, 4092, 4091}, 1 + 1},   // 4091
		{[]int{4092, 1600, 4092, 1600}, 4 * 1246 * 1246},
	} {
		leaves := stats.Levels(rowOf(t, c.sizes...))[0]
		want := math.Sqrt(c.squares/float64(len(c.sizes))) / 4092
		if !sameBits(leaves.Spread, want) {
			t.Errorf("%v: Spread is %v, not %v", c.sizes, leaves.Spread, want)
		}
	}
}

// TestP22_2Ends: the least and the greatest size, wherever they stand.
func TestP22_2Ends(t *testing.T) {
	for at := range 5 {
		sizes := []int{3000, 3000, 3000, 3000, 3000}
		sizes[at] = 4092
		if l := stats.Levels(rowOf(t, sizes...))[0]; l.Least != 3000 || l.Most != 4092 || l.Used != 16092 || l.Nodes != 5 {
			t.Errorf("the greatest at %d: %s", at, told(l))
		}
		sizes[at] = 600
		if l := stats.Levels(rowOf(t, sizes...))[0]; l.Least != 600 || l.Most != 3000 || l.Used != 12600 || l.Nodes != 5 {
			t.Errorf("the least at %d: %s", at, told(l))
		}
	}
}

// TestP22_2OneLeaf: leaves of many sizes by themselves: Mean is the share, Spread is 0.
func TestP22_2OneLeaf(t *testing.T) {
	for size := 600; size <= 4092; size++ {
		levelsAre(t, fmt.Sprint("a leaf of ", size), rowOf(t, size), []stats.Level{
			{Nodes: 1, Used: size, Least: size, Most: size, Mean: plainQuo(plainF(size), plainF(4092))},
		})
	}
	levelsAre(t, "the least leaf", letters(t, 0), []stats.Level{{Nodes: 1, Used: 9, Least: 9, Most: 9, Mean: 9.0 / 4092}})
}

// TestP22_2Chains: a chain is no node: only where it begins counts.
func TestP22_2Chains(t *testing.T) {
	want := []stats.Level{{Nodes: 1, Used: 15, Least: 15, Most: 15, Mean: 15.0 / 4092}}
	x := with(t, tree.Empty(), "k", 262144)
	levelsAre(t, "a long chain", x, want)
	levelsAre(t, "a long chain with numbers", numbered(t, x, 9), want)
}

// TestP22_2Any: trees of all kinds; among them all heights up to 4, and some whose middle is no whole number, so that it matters that it is rounded.
func TestP22_2Any(t *testing.T) {
	t.Parallel()
	heights, rounded := map[int]int{}, 0
	for _, g := range groves(t) {
		want := plainLevels(g.x.Nodes())
		levelsAre(t, g.name, g.x, want)
		heights[len(want)]++
		for _, l := range want {
			if l.Used%l.Nodes != 0 {
				rounded++
			}
		}
	}
	for h := range 5 {
		if heights[h] == 0 {
			t.Errorf("no tree of height %d: %v", h, heights)
		}
	}
	if rounded < 10 {
		t.Errorf("only %d levels whose middle is rounded", rounded)
	}
}

// TestP22_2Rows: rows of any sizes, so floats of all kinds.
func TestP22_2Rows(t *testing.T) {
	t.Parallel()
	next := noise(222)
	for range 300 {
		x := rowOf(t, anySizes(next, 1+next(40))...)
		levelsAre(t, "a row", x, plainLevels(x.Nodes()))
	}
}
