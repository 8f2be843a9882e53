package tree_test

import (
	"fmt"
	"math"
	"slices"
	"strings"
	"testing"

	"coppice/api"
	"coppice/tree"
)

func TestP10_9Examples(t *testing.T) {
	x := numbered(t, lettered(t, "abcdefghi"), 7)
	a, b := leafOf(7, 500, lettersOf("abcd")...), leafOf(8, 500, lettersOf("efghi")...)
	wantNodes(t, "nine letters", x, []api.Node{a, b, branchOf(9, 1, []string{"e"}, 0, 1)})
	if x.Len() != 9 || x.Height() != 2 {
		t.Errorf("%d pairs, height %d", x.Len(), x.Height())
	}
}

// A leaf has a list of chains as long as that of its pairs, also where no pair has a chain; what a node has not is zero.
func TestP10_9Fields(t *testing.T) {
	trees := full(t)
	for _, name := range names(trees) {
		for i, n := range trees[name].Nodes() {
			if n.Level == 0 && (len(n.Pairs) == 0 || len(n.Chains) != len(n.Pairs) || len(n.Seps) != 0 || len(n.Kids) != 0) {
				t.Errorf("%s: the leaf at %d has %d pairs, %d chains, %d separators, %d kids", name, i, len(n.Pairs), len(n.Chains), len(n.Seps), len(n.Kids))
			}
			if n.Level > 0 && (len(n.Pairs) != 0 || len(n.Chains) != 0 || len(n.Seps) != len(n.Kids)-1) {
				t.Errorf("%s: the branch at %d has %d pairs, %d chains, %d separators, %d kids", name, i, len(n.Pairs), len(n.Chains), len(n.Seps), len(n.Kids))
			}
		}
	}
}

// Post-order: the last kid stands right ahead of its branch, the others each right ahead of what lies below the next one; the root is the last of all.
func TestP10_9Order(t *testing.T) {
	trees := full(t)
	for _, name := range names(trees) {
		l := trees[name].Nodes()
		below := make([]int, len(l)) // how many nodes lie at each place and below
		for i, n := range l {
			below[i] = 1
			at := i - 1
			for k := len(n.Kids) - 1; k >= 0; k-- {
				if n.Kids[k] != at {
					t.Fatalf("%s: the kid %d of the branch at %d stands at %d, not at %d", name, k, i, n.Kids[k], at)
				}
				if l[at].Level != n.Level-1 {
					t.Errorf("%s: a kid of level %d below a branch of level %d", name, l[at].Level, n.Level)
				}
				below[i] += below[at]
				at -= below[at]
			}
		}
		if len(l) > 0 && below[len(l)-1] != len(l) {
			t.Errorf("%s: below the last node there are %d of %d", name, below[len(l)-1], len(l))
		}
	}
}

func TestP10_9LenAndHeight(t *testing.T) {
	trees := full(t)
	heights := map[int]int{}
	for _, name := range names(trees) {
		x := trees[name]
		pairs, height := 0, 0
		for _, n := range x.Nodes() {
			pairs += len(n.Pairs)
			height = max(height, n.Level+1)
		}
		heights[height]++
		if x.Len() != pairs || x.Height() != height {
			t.Errorf("%s: %d pairs, height %d; not %d, %d", name, x.Len(), x.Height(), pairs, height)
		}
	}
	for h := range 5 {
		if heights[h] == 0 {
			t.Errorf("no tree of height %d", h)
		}
	}
}

func TestP10_10Examples(t *testing.T) {
	x := with(t, tree.Empty(), "k", strings.Repeat("v", 513))
	if x.Fresh() != 2 || len(x.Numbers()) != 0 {
		t.Errorf("%d fresh, numbers %v", x.Fresh(), x.Numbers())
	}
	y, err := x.Numbered([]int{5, 9})
	if err != api.OK || y.Fresh() != 0 || !slices.Equal(y.Numbers(), []int{5, 9}) {
		t.Fatalf("Numbered: %d, %d fresh, numbers %v", err, y.Fresh(), y.Numbers())
	}
	if l := y.Nodes(); len(l) != 1 || l[0].No != 9 || !slices.Equal(l[0].Chains[0], []int{5}) {
		t.Errorf("numbered:\n%s", tell(l))
	}
	z, err := y.With([]byte("k"), []byte(strings.Repeat("v", 513)))
	if err != api.OK || z != y || z.Fresh() != 0 {
		t.Errorf("the same again: %d, %d fresh", err, z.Fresh())
	}
	w := with(t, y, "l", "")
	if w.Fresh() != 1 || !slices.Equal(w.Numbers(), []int{5}) {
		t.Errorf("another key: %d fresh, numbers %v", w.Fresh(), w.Numbers())
	}
	if x.Fresh() != 2 || len(x.Numbers()) != 0 {
		t.Error("the tree ahead of Numbered has changed")
	}
}

// Pages of a chain: one for each 4085 bytes, if there are more than 512.
func TestP10_10FreshPages(t *testing.T) {
	for size, pages := range map[int]int{0: 0, 512: 0, 513: 1, 4085: 1, 4086: 2, 8170: 2, 8171: 3, 262144: 65} {
		x := with(t, tree.Empty(), "k", strings.Repeat("v", size))
		if x.Fresh() != 1+pages {
			t.Errorf("%d bytes: %d fresh, not %d", size, x.Fresh(), 1+pages)
		}
		y := numbered(t, x, 10)
		l := y.Nodes()
		if len(l[0].Chains[0]) != pages || l[0].No != 10+pages || len(y.Numbers()) != 1+pages {
			t.Errorf("%d bytes: chain %v, leaf %d, numbers %v", size, l[0].Chains[0], l[0].No, y.Numbers())
		}
	}
}

// The order: the nodes post-order; of a leaf first its new chains, page by page, then the leaf; a branch behind its kids. What has a number is left out.
func TestP10_10Order(t *testing.T) {
	x := lettered(t, "abcdefghi")
	x = with(t, with(t, x, "b", strings.Repeat("v", 5000)), "d", strings.Repeat("v", 600))
	x = with(t, x, "h", strings.Repeat("v", 9000))
	y, err := x.Numbered([]int{50, 49, 60, 2, 7, 8, 9, 3, 524286})
	if err != api.OK {
		t.Fatalf("Numbered: %d, %d fresh", err, x.Fresh())
	}
	l := y.Nodes()
	told := fmt.Sprint(l[0].Chains, l[0].No, l[1].Chains, l[1].No, l[2].No, y.Numbers())
	if want := "[[] [50 49] [] [60]] 2 [[] [] [] [7 8 9] []] 3 524286 [2 3 7 8 9 49 50 60 524286]"; told != want {
		t.Errorf("%s, not %s", told, want)
	}
	z := with(t, with(t, y, "cc", strings.Repeat("v", 700)), "aa", strings.Repeat("v", 513))
	z, err = z.Numbered([]int{13, 12, 11, 10})
	if err != api.OK {
		t.Fatalf("Numbered again: %d", err)
	}
	l = z.Nodes()
	told = fmt.Sprint(l[0].Chains, l[0].No, l[1].Chains, l[1].No, l[2].No, z.Numbers())
	if want := "[[] [13] [50 49] [] [12] [60]] 11 [[] [] [] [7 8 9] []] 3 10 [3 7 8 9 10 11 12 13 49 50 60]"; told != want {
		t.Errorf("again: %s, not %s", told, want)
	}
}

// Of all trees: Fresh and Numbers count what the nodes say, and Numbered hands out as the plain tree does.
func TestP10_10Trees(t *testing.T) {
	trees := full(t)
	for _, name := range names(trees) {
		x := trees[name]
		l := x.Nodes()
		p := plainFrom(l, nil)
		if x.Fresh() != p.freshPages() || !slices.Equal(x.Numbers(), plainNumbers(l)) {
			t.Errorf("%s: %d fresh, not %d; %d numbers, not %d", name, x.Fresh(), p.freshPages(), len(x.Numbers()), len(plainNumbers(l)))
		}
		var nos []int
		for i := range x.Fresh() {
			nos = append(nos, 524286-3*i)
		}
		y, err := x.Numbered(nos)
		if err != api.OK {
			t.Fatalf("%s: Numbered: %d", name, err)
		}
		p.number(nos)
		wantNodes(t, name, y, p.nodes())
		wantNodes(t, name+", the tree ahead", x, l)
		if y.Fresh() != 0 || y.Len() != x.Len() || y.Height() != x.Height() || !slices.Equal(y.Numbers(), plainNumbers(p.nodes())) {
			t.Errorf("%s: numbered, it has %d fresh, %d pairs, height %d", name, y.Fresh(), y.Len(), y.Height())
		}
		z, err := y.Numbered(nil)
		if err != api.OK || z == nil {
			t.Fatalf("%s: Numbered where nothing is new: %d", name, err)
		}
		wantNodes(t, name+", numbered by nothing", z, y.Nodes())
	}
}

// wantNoNumbers asks that these numbers are refused.
func wantNoNumbers(t *testing.T, name string, x *tree.Tree, nos []int) {
	t.Helper()
	fresh, numbers := x.Fresh(), x.Numbers()
	y, err := x.Numbered(nos)
	if err != api.ErrTree || y != x {
		t.Errorf("Numbered of %s: %d, the tree itself: %v", name, err, y == x)
	}
	if x.Fresh() != fresh || !slices.Equal(x.Numbers(), numbers) {
		t.Errorf("Numbered of %s changed the tree", name)
	}
}

func TestP10_10Errors(t *testing.T) {
	x := numbered(t, with(t, lettered(t, "abcdefghi"), "b", strings.Repeat("v", 9000)), 10) // chain 10 11 12, leaves 13 14, root 15
	y := with(t, x, "h", strings.Repeat("v", 5000))                                         // chain, chain, leaf, root: four; 14 and 15 are gone
	if y.Fresh() != 4 || !slices.Equal(y.Numbers(), []int{10, 11, 12, 13}) {
		t.Fatalf("%d fresh, numbers %v", y.Fresh(), y.Numbers())
	}
	for name, nos := range map[string][]int{
		"none": nil, "no list": {}, "one too few": {20, 21, 22}, "one too many": {20, 21, 22, 23, 24},
		"two alike, side by side": {20, 20, 21, 22}, "two alike, at the ends": {20, 21, 22, 20}, "all alike": {20, 20, 20, 20},
		"a leaf's": {20, 13, 21, 22}, "the first of a chain": {10, 20, 21, 22}, "the last of a chain": {20, 21, 22, 12},
		"0": {0, 20, 21, 22}, "1": {20, 21, 22, 1}, "-1": {20, -1, 21, 22}, "524287": {20, 21, 524287, 22},
		"2^32 + 2": {20, 21, 22, 1<<32 + 2}, "the greatest": {math.MaxInt, 20, 21, 22}, "the least": {20, 21, 22, math.MinInt},
		"one for each page in all": {20, 21, 22, 23, 24, 25, 26, 27},
	} {
		wantNoNumbers(t, name, y, nos)
	}
	for _, nos := range [][]int{{20, 21, 22, 23}, {14, 15, 16, 17}, {15, 14, 2, 524286}, {9, 8, 7, 6}} {
		if z, err := y.Numbered(nos); err != api.OK || z.Fresh() != 0 {
			t.Errorf("Numbered(%v): %d", nos, err)
		}
	}
	wantNoNumbers(t, "one for a tree in which nothing is new", x, []int{20})
	wantNoNumbers(t, "one for the empty tree", tree.Empty(), []int{20})
}

// Numbers of another version are free again for one that has them no longer.
func TestP10_10NumbersOfAnotherVersion(t *testing.T) {
	x := numbered(t, lettered(t, "abcdefghi"), 2)
	y := with(t, x, "f", "new") // the second leaf, 3, and the root, 4, are gone
	z, err := y.Numbered([]int{3, 4})
	if err != api.OK {
		t.Fatalf("Numbered: %d", err)
	}
	wantNos(t, "the newer one", z, 2, 3, 4)
	wantGet(t, z, "f", "new", true)
	wantGet(t, x, "f", v500, true)
}
