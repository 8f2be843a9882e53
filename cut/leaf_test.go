package cut_test

import (
	"slices"
	"testing"

	"coppice/api"
	"coppice/cut"
	"coppice/leaf"
)

// wantLeaf asks that a leaf of these items is cut there.
func wantLeaf(t *testing.T, name string, items []api.Item, want int) {
	t.Helper()
	if got := cut.Leaf(items); got != want {
		t.Errorf("Leaf of %s = %d, not %d", name, got, want)
	}
}

func TestP9_2Examples(t *testing.T) {
	nine := letters(9, 500)
	if a, b, all := leaf.Size(nine[:4]), leaf.Size(nine[4:]), leaf.Size(nine); a != 2028 || b != 2534 || all != 4558 {
		t.Fatalf("sizes %d, %d, %d", a, b, all)
	}
	wantLeaf(t, "nine items", nine, 4)
	wantLeaf(t, "one item", letters(1, 500), 0)
	wantLeaf(t, "none", nil, 0)
	wantLeaf(t, "none", []api.Item{}, 0)
}

// Items that are all alike: the middle, and the least of the two middles.
func TestP9_2TheLeastOfSeveral(t *testing.T) {
	for n := 2; n <= 16; n++ {
		wantLeaf(t, "items that are alike", letters(n, 500), n/2)
		wantLeaf(t, "items without values", letters(n, 0), n/2)
	}
	// Of two parts that are equal there is just one such place; of unlike ones the place ahead of it may be as good.
	wantLeaf(t, "600, 600", []api.Item{sized("a", 300), sized("b", 300), sized("c", 300), sized("d", 300)}, 2)
	wantLeaf(t, "ends that are alike", []api.Item{sized("a", 300), sized("b", 10), sized("c", 300)}, 1)
	wantLeaf(t, "a great one last", []api.Item{sized("a", 10), sized("b", 10), sized("c", 400)}, 2)
	wantLeaf(t, "a great one first", []api.Item{sized("a", 400), sized("b", 10), sized("c", 10)}, 1)
}

// A leaf that fits is cut too, and so is one far below.
func TestP9_2WhatFitsIsCutToo(t *testing.T) {
	wantLeaf(t, "two", bare("a", "b"), 1)
	wantLeaf(t, "three", bare("a", "b", "c"), 1)
	wantLeaf(t, "two without keys", bare("", ""), 1)
	wantLeaf(t, "eight", letters(8, 500), 4)
}

// One item without a value comes to its key's bytes and 9 (of 128 bytes at least): a key of 4083 bytes is a full leaf.
func TestP9_2BothPartsMustFit(t *testing.T) {
	full, over := xs(4083), xs(4084)
	if a, b := leaf.Size(bare(full)), leaf.Size(bare(over)); a != 4092 || b != 4093 {
		t.Fatalf("sizes %d, %d", a, b)
	}
	wantLeaf(t, "two full ones", bare(full, full), 1)
	wantLeaf(t, "one too big, first", bare(over, full), 0)
	wantLeaf(t, "one too big, last", bare(full, over), 0)
	wantLeaf(t, "one too big, beside a small one", bare(over, "a"), 0)
	wantLeaf(t, "a small one beside one too big", bare("a", over), 0)
	wantLeaf(t, "one too big between small ones", bare("a", over, "b"), 0)
	wantLeaf(t, "two full ones and a small one", bare("a"+full[1:], "b"+full[1:], "c"), 0)
	wantLeaf(t, "three full ones", bare(full, "a"+full[1:], full), 0)
}

// Items without keys and values have 4 bytes each, and the leaf 4 more: 1022 of them are a full leaf.
func TestP9_2ManySmallOnes(t *testing.T) {
	for n, want := range map[int]int{1022: 511, 1023: 511, 2043: 1021, 2044: 1022, 2045: 0, 2046: 0} {
		wantLeaf(t, "items without keys", make([]api.Item, n), want)
	}
}

// A value is told by Size alone; one of more than 512 bytes has four there.
func TestP9_2ValuesInChains(t *testing.T) {
	for n := 2; n <= 30; n++ {
		wantLeaf(t, "chained items", letters(n, 262144), n/2)
	}
	// 513 bytes count as 4, 512 as 512: the last one is as great as all others.
	wantLeaf(t, "a value of 512 bytes behind longer ones", append(letters(9, 513), sized("Z", 512)), 9)
	wantLeaf(t, "a value of 513 bytes behind longer ones", append(letters(9, 513), sized("Z", 513)), 5)
}

// What the keys of a part have in common counts once in it: not where it is cut by number or by bytes of the whole.
func TestP9_2WhatKeysHaveInCommon(t *testing.T) {
	wantLeaf(t, "an outlier ahead", outliers(300, 1, 0), 16)
	wantLeaf(t, "an outlier behind", outliers(300, 0, 1), 285)
	for _, n := range []int{20, 140, 340, 380} {
		for _, out := range [][2]int{{0, 0}, {1, 0}, {0, 1}, {1, 1}, {2, 5}} {
			items := outliers(n, out[0], out[1])
			wantLeaf(t, "outliers", items, plainLeaf(items))
		}
	}
	// Two beginnings: each part has one of them.
	var two []api.Item
	for _, head := range []string{"a", "b"} {
		for i := range 30 {
			two = append(two, sized(head+xs(200)+string(rune('A'+i)), 50))
		}
	}
	wantLeaf(t, "two beginnings", two, 30)
}

func TestP9_2ItemsThatMayBe(t *testing.T) {
	cuts, none := 0, 0
	for _, items := range likely() {
		want := plainLeaf(items)
		wantLeaf(t, tellItems(items), items, want)
		if want > 0 {
			cuts++
		} else {
			none++
		}
	}
	if cuts < 100 || none < 20 {
		t.Errorf("only %d cuts, and %d lists without one", cuts, none)
	}
}

// Nothing asks whether items rise, or may be.
func TestP9_2AnyItems(t *testing.T) {
	cuts := 0
	for _, items := range loose() {
		want := plainLeaf(items)
		wantLeaf(t, tellItems(items), items, want)
		if want > 0 {
			cuts++
		}
	}
	if cuts < 100 {
		t.Errorf("only %d cuts", cuts)
	}
}

// Of each number of items from 0 on, all that begin a list, and all that end it.
func TestP9_2EachNumber(t *testing.T) {
	next := noise(92)
	for range 6 {
		items := shape{head: []byte("head"), least: 1, most: 60, values: []int{0, 5, 60, 512, 600}}.items(next, 90)
		for n := range items {
			wantLeaf(t, tellItems(items[:n]), items[:n], plainLeaf(items[:n]))
			wantLeaf(t, tellItems(items[n:]), items[n:], plainLeaf(items[n:]))
		}
	}
}

// Value and First are not looked at.
func TestP9_2SizeAloneCounts(t *testing.T) {
	for _, items := range likely() {
		other := slices.Clone(items)
		for i := range other {
			other[i].Value, other[i].First = make([]byte, i%700), i-3
		}
		wantLeaf(t, "the same with other values", other, cut.Leaf(items))
	}
}

// So many items never fit; the call ends all the same.
func TestP9_2VeryMany(t *testing.T) {
	items := make([]api.Item, 300000)
	for i := range items {
		items[i].Key = []byte("abc")[:i%4]
	}
	wantLeaf(t, "300000 items", items, 0)
}
