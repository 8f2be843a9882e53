package leaf_test

import (
	"math"
	"strings"
	"testing"

	"coppice/api"
	"coppice/leaf"
)

func TestP4_1Examples(t *testing.T) {
	for _, c := range []struct {
		items []api.Item
		want  int
	}{
		{nil, 4},
		{[]api.Item{}, 4},
		{[]api.Item{inline("a", "x")}, 10},
		{[]api.Item{inline("ab", ""), inline("abc", "yz")}, 17},
		{[]api.Item{inline("a", "x"), inline("b", "y")}, 16},
		{[]api.Item{chained("k", 600, 9)}, 14},
	} {
		if n := leaf.Size(c.items); n != c.want {
			t.Errorf("Size(%s) = %d, not %d", tell(c.items), n, c.want)
		}
	}
}

// One item's whole key stands ahead of the cells: 3, the length's bytes and the key; then 2, 1 for the rest of no byte, and the tag and value.
func TestP4_1KeysOfAnyLength(t *testing.T) {
	for length, want := range map[int]int{0: 8, 1: 9, 126: 134, 127: 135, 128: 137, 129: 138, 255: 264, 256: 265, 16383: 16392, 16384: 16394, 100000: 100010} {
		if n := leaf.Size([]api.Item{inline(xs(length), "")}); n != want {
			t.Errorf("Size of a key of %d bytes = %d, not %d", length, n, want)
		}
	}
}

func TestP4_1Rests(t *testing.T) {
	for rest, want := range map[int]int{0: 12, 1: 13, 127: 139, 128: 141, 255: 268, 256: 269, 16383: 16396, 16384: 16398} {
		// The empty key leaves nothing in common, so the other one's rest is all of it.
		if n := leaf.Size([]api.Item{inline("", ""), inline(xs(rest), "")}); n != want {
			t.Errorf("Size with a rest of %d bytes = %d, not %d", rest, n, want)
		}
	}
}

func TestP4_1CommonBeginnings(t *testing.T) {
	for p, want := range map[int]int{0: 14, 1: 15, 127: 141, 128: 143, 254: 269, 255: 270, 300: 315} {
		items := []api.Item{inline(xs(p)+"a", ""), inline(xs(p)+"b", "")}
		if n := leaf.Size(items); n != want {
			t.Errorf("Size of two keys with %d bytes in common = %d, not %d", p, n, want)
		}
	}
}

// An item of the key a has 8 bytes beside the tag and the value, or the 4 bytes of First.
func TestP4_1Sizes(t *testing.T) {
	for size, want := range map[int]int{
		math.MinInt: 9, -262145: 9, -1: 9, 0: 9,
		1: 10, 63: 72, 64: 74, 511: 521, 512: 522,
		513: 14, 514: 14, 600: 14, 8191: 14, 8192: 15, 262143: 15, 262144: 15,
		262145: 15, 1 << 20: 15, 1 << 30: 15, 1 << 62: 15, math.MaxInt: 15,
	} {
		if n := leaf.Size([]api.Item{chained("a", size, 2)}); n != want {
			t.Errorf("Size of an item of %d bytes = %d, not %d", size, n, want)
		}
	}
}

func TestP4_1ValueAndFirstAreNotLookedAt(t *testing.T) {
	for _, size := range []int{-1, 0, 1, 512, 513, 262144, 262145} {
		want := leaf.Size([]api.Item{{Key: []byte("a"), Size: size}})
		for _, value := range []string{"", "x", xs(512), xs(5000)} {
			for _, first := range []int{math.MinInt, -1, 0, 1, 2, 524287, math.MaxInt} {
				it := api.Item{Key: []byte("a"), Size: size, Value: []byte(value), First: first}
				if n := leaf.Size([]api.Item{it}); n != want {
					t.Errorf("Size(%d bytes, a value of %d, first %d) = %d, not %d", size, len(value), first, n, want)
				}
			}
		}
	}
}

func TestP4_1KeysInAnyOrder(t *testing.T) {
	for _, c := range []struct {
		keys string
		want int
	}{
		{"b a", 14}, {"a a", 13}, {"abc ab abd", 20}, {"ab abc abd", 20}, {"abd abc ab", 20}, {"a a a", 17}, {"b a b", 19},
	} {
		var items []api.Item
		for _, k := range strings.Fields(c.keys) {
			items = append(items, inline(k, ""))
		}
		if n := leaf.Size(items); n != c.want {
			t.Errorf("Size of the keys %s = %d, not %d", c.keys, n, c.want)
		}
	}
}

func TestP4_1AnyList(t *testing.T) {
	next := noise(41)
	sizes := []int{math.MinInt, -1, 0, 1, 63, 64, 512, 513, 8191, 8192, 262144, 262145, math.MaxInt}
	for round := range 3000 {
		var items []api.Item
		head := anyKey(next, 0, 130)
		for range next(9) {
			it := chained(string(head)+string(anyKey(next, 0, 140)), sizes[next(len(sizes))], next(9)-4)
			it.Value = anyKey(next, 0, 5)
			items = append(items, it)
		}
		if n, want := leaf.Size(items), plainSize(items); n != want {
			t.Fatalf("round %d: Size(%s) = %d, not %d", round, tell(items), n, want)
		}
	}
}

func TestP4_1ManyItems(t *testing.T) {
	items := make([]api.Item, 200000)
	for i := range items {
		items[i] = sized("ab", 0)
		items[i].Size = 512
	}
	if n, want := leaf.Size(items), 6+200000*(2+1+2+512); n != want {
		t.Errorf("Size of 200000 items = %d, not %d", n, want)
	}
}
