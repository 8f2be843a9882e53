package stats_test

import (
	"fmt"
	"strings"
	"testing"

	"coppice/stats"
	"coppice/tree"
)

// TestP22_1Examples: the chapter's, and those whose sizes the chapters 4 and 10 tell.
func TestP22_1Examples(t *testing.T) {
	ofIs(t, "two", letters(t, 1, 1), stats.Sum{Keys: 2, KeyBytes: 2, ValueBytes: 2, Pages: 1, Used: 16, Fill: 16.0 / 4092})
	ofIs(t, "empty", tree.Empty(), stats.Sum{})
	ofIs(t, "k of 600 bytes", with(t, tree.Empty(), "k", 600), stats.Sum{Keys: 1, KeyBytes: 1, ValueBytes: 600, Pages: 2, Used: 614, Fill: 614.0 / 8184})
	nine := letters(t, 500, 500, 500, 500, 500, 500, 500, 500, 500)
	ofIs(t, "nine", nine, stats.Sum{Keys: 9, KeyBytes: 9, ValueBytes: 4500, Pages: 3, Used: 2028 + 2534 + 25, Fill: 4587.0 / 12276})
}

// TestP22_1Emptied: a tree out of which all has been taken is as one into which nothing was laid.
func TestP22_1Emptied(t *testing.T) {
	x := letters(t, 500, 9000)
	x, _ = x.Without([]byte("a"))
	x, _ = x.Without([]byte("b"))
	ofIs(t, "emptied", x, stats.Sum{})
}

// TestP22_1Chains: where a value's chain begins to be, and where it has a page more. A value that lies in its leaf counts once, one in a chain besides what its leaf says of it.
func TestP22_1Chains(t *testing.T) {
	for _, c := range []struct{ size, pages, used int }{
		{0, 1, 9}, {1, 1, 10}, {63, 1, 72}, {64, 1, 74}, {511, 1, 521}, {512, 1, 522},
		{513, 2, 14 + 513}, {4085, 2, 14 + 4085}, {4086, 3, 14 + 4086}, {8170, 3, 14 + 8170}, {8171, 4, 14 + 8171},
		{8191, 4, 14 + 8191}, {8192, 4, 15 + 8192}, {262143, 66, 15 + 262143}, {262144, 66, 15 + 262144},
	} {
		want := stats.Sum{Keys: 1, KeyBytes: 1, ValueBytes: c.size, Pages: c.pages, Used: c.used, Fill: plainQuo(plainF(c.used), plainF(c.pages*4092))}
		x := with(t, tree.Empty(), "k", c.size)
		ofIs(t, fmt.Sprint("a value of ", c.size), x, want)
		ofIs(t, fmt.Sprint("a value of ", c.size, " with numbers"), numbered(t, x, 2), want)
	}
}

// TestP22_1Keys: keys count in full, however much of them stands once in their leaf.
func TestP22_1Keys(t *testing.T) {
	head := strings.Repeat("p", 254)
	x := with(t, with(t, with(t, tree.Empty(), head, 0), head+"a", 0), head+"b", 0)
	used := 3 + 2 + 254 + 4 + 5 + 5
	ofIs(t, "three that are alike", x, stats.Sum{Keys: 3, KeyBytes: 254 + 255 + 255, Pages: 1, Used: used, Fill: plainQuo(plainF(used), plainF(4092))})
	one := with(t, tree.Empty(), head+"a", 0)
	ofIs(t, "one of 255 bytes", one, stats.Sum{Keys: 1, KeyBytes: 255, Pages: 1, Used: 264, Fill: 264.0 / 4092})
}

// TestP22_1Full: a page that is just full has the share 1, and two of which one is a full chain and a little leaf have less.
func TestP22_1Full(t *testing.T) {
	ofIs(t, "full", rowOf(t, 4092), stats.Sum{Keys: 8, KeyBytes: 24, ValueBytes: 4092 - 6 - 8*6, Pages: 1, Used: 4092, Fill: 1})
	x := with(t, tree.Empty(), "k", 4085)
	ofIs(t, "a full page of a chain", x, stats.Sum{Keys: 1, KeyBytes: 1, ValueBytes: 4085, Pages: 2, Used: 4099, Fill: 4099.0 / 8184})
}

// TestP22_1Replaced: a value that has been replaced counts no more.
func TestP22_1Replaced(t *testing.T) {
	x := with(t, tree.Empty(), "k", 262144)
	x = with(t, numbered(t, x, 2), "k", 1)
	ofIs(t, "replaced", x, stats.Sum{Keys: 1, KeyBytes: 1, ValueBytes: 1, Pages: 1, Used: 10, Fill: 10.0 / 4092})
}

// TestP22_1Any: trees of all kinds.
func TestP22_1Any(t *testing.T) {
	t.Parallel()
	for _, g := range groves(t) {
		ofIs(t, g.name, g.x, plainOf(g.x.Nodes()))
	}
}

// TestP22_1Pages: Pages is what a Commit of the whole tree, all of it new, would write.
func TestP22_1Pages(t *testing.T) {
	t.Parallel()
	for _, g := range groves(t) {
		nodes := g.x.Nodes()
		for i := range nodes {
			nodes[i].No, nodes[i].Chains = 0, nil
		}
		if s, fresh := stats.Of(g.x), built(t, nodes).Fresh(); s.Pages != fresh || s.Keys != g.x.Len() {
			t.Errorf("%s: %d pages, %d keys; not %d, %d", g.name, s.Pages, s.Keys, fresh, g.x.Len())
		}
	}
}
