package tree_test

import (
	"bytes"
	"math"
	"slices"
	"strings"
	"testing"

	"coppice/api"
	"coppice/tree"
)

// wantNoTree asks that a list is refused.
func wantNoTree(t *testing.T, name string, l []api.Node) {
	t.Helper()
	if x, err := tree.Build(l); err != api.ErrTree || x != nil {
		t.Errorf("Build of %s: %d, a tree: %v", name, err, x != nil)
	}
}

// wantTree asks that a list is taken, and that the tree tells it again.
func wantTree(t *testing.T, name string, l []api.Node) {
	t.Helper()
	x, err := tree.Build(l)
	if err != api.OK || x == nil {
		t.Errorf("Build of %s: %d (%s)", name, err, unsound(l))
		return
	}
	wantNodes(t, name, x, l)
}

func TestP10_2NoNode(t *testing.T) {
	for _, l := range [][]api.Node{nil, {}, make([]api.Node, 0, 5)} {
		x, err := tree.Build(l)
		if err != api.OK || x == nil || x.Len() != 0 || x.Height() != 0 || len(x.Nodes()) != 0 {
			t.Errorf("Build of no node: %d", err)
		}
	}
}

// Of all trees: Build of their nodes is the same tree, and goes on as it would.
func TestP10_2ThereAndBack(t *testing.T) {
	trees := full(t)
	for _, name := range names(trees) {
		x := trees[name]
		l := x.Nodes()
		wantTree(t, name, l)
		y := built(t, l)
		if y.Len() != x.Len() || y.Height() != x.Height() || y.Fresh() != x.Fresh() || !slices.Equal(y.Numbers(), x.Numbers()) {
			t.Errorf("%s: the tree that was built is another one", name)
		}
		for _, k := range []string{"a", "k", "p", "\xff\xff"} {
			wantNodes(t, name, with(t, y, k, v500), with(t, x, k, v500).Nodes())
			a, hadA := x.Without([]byte(k))
			b, hadB := y.Without([]byte(k))
			if hadA != hadB {
				t.Errorf("%s: Without(%q): %v and %v", name, k, hadA, hadB)
			}
			wantNodes(t, name, b, a.Nodes())
		}
	}
}

// Chains may be left out where no pair has a chain with numbers: none of them, or all.
func TestP10_2ChainsLeftOut(t *testing.T) {
	x := with(t, with(t, lettered(t, "abcdefghijklmnop"), "b", strings.Repeat("w", 600)), "n", strings.Repeat("w", 9000))
	l := x.Nodes()
	for i := range l {
		l[i].Chains = nil
		if i == 1 {
			l[i].Chains = [][]int{}
		}
	}
	wantNodes(t, "without chains", built(t, l), x.Nodes())

	y := numbered(t, lettered(t, "abcdefghijklmnop"), 2)
	l = y.Nodes()
	for i := range l {
		l[i].Chains = nil
	}
	wantNodes(t, "numbered, without chains", built(t, l), y.Nodes())

	z := numbered(t, x, 2)
	for i, n := range z.Nodes() {
		l := z.Nodes()
		if n.Level == 0 && slices.ContainsFunc(n.Chains, func(c []int) bool { return len(c) > 0 }) {
			l[i].Chains = nil
			wantNoTree(t, "a numbered leaf whose chain is left out", l)
		}
		l = z.Nodes()
		if n.Level == 0 {
			l[i].Chains = l[i].Chains[:len(l[i].Chains)-1]
			wantNoTree(t, "a leaf with a chain too few", l)
			l = z.Nodes()
			l[i].Chains = append(l[i].Chains, nil)
			wantNoTree(t, "a leaf with a chain too many", l)
		}
	}
}

// three is a tree of three leaves, two of them with chains, all numbered: leaves 2, 3, 4, the root 5, chains 20 and 30, 31, 32.
func three() []api.Node {
	return []api.Node{
		chained(leafOf(2, 500, lettersOf("abcdef")...), 2, 600, 20), leafOf(3, 500, lettersOf("ghijkl")...),
		chained(leafOf(4, 500, lettersOf("mnopqr")...), 5, 9000, 30, 31, 32), branchOf(5, 1, []string{"g", "ll"}, 0, 1, 2),
	}
}

// Each of these is one thing that no sound tree has.
func TestP10_2OneFault(t *testing.T) {
	wantTree(t, "three leaves", three())
	for name, spoil := range map[string]func(l []api.Node) []api.Node{
		"no root":                                 func(l []api.Node) []api.Node { return l[:3] },
		"two trees":                               func(l []api.Node) []api.Node { return append(l, leafOf(9, 5, "z")) },
		"a root alone":                            func(l []api.Node) []api.Node { return l[3:] },
		"a leaf too few":                          func(l []api.Node) []api.Node { return l[1:] },
		"a leaf in front":                         func(l []api.Node) []api.Node { return append([]api.Node{leafOf(9, 5, "A")}, l...) },
		"a leaf ahead of the root":                func(l []api.Node) []api.Node { return slices.Insert(l, 3, leafOf(9, 5, "z")) },
		"the root first":                          func(l []api.Node) []api.Node { return slices.Concat(l[3:], l[:3]) },
		"leaves swapped":                          func(l []api.Node) []api.Node { l[0], l[1] = l[1], l[0]; return l },
		"leaves and kids swapped":                 func(l []api.Node) []api.Node { l[0], l[1] = l[1], l[0]; l[3].Kids = []int{1, 0, 2}; return l },
		"kids swapped":                            func(l []api.Node) []api.Node { l[3].Kids = []int{1, 0, 2}; return l },
		"a kid twice":                             func(l []api.Node) []api.Node { l[3].Kids = []int{0, 0, 2}; return l },
		"a kid that is not there":                 func(l []api.Node) []api.Node { l[3].Kids = []int{0, 1, 4}; return l },
		"a kid that is the branch itself":         func(l []api.Node) []api.Node { l[3].Kids = []int{0, 1, 3}; return l },
		"a kid below 0":                           func(l []api.Node) []api.Node { l[3].Kids = []int{-1, 1, 2}; return l },
		"a kid far away":                          func(l []api.Node) []api.Node { l[3].Kids = []int{0, math.MaxInt, math.MinInt}; return l },
		"a kid too few":                           func(l []api.Node) []api.Node { l[3].Kids = []int{0, 1}; return l },
		"a kid and a separator too few":           func(l []api.Node) []api.Node { l[3] = branchOf(5, 1, []string{"ll"}, 1, 2); return l },
		"a kid and a separator too few, the last": func(l []api.Node) []api.Node { l[3] = branchOf(5, 1, []string{"g"}, 0, 1); return l },
		"a kid too many":                          func(l []api.Node) []api.Node { l[3].Kids = []int{0, 1, 2, 2}; return l },
		"a kid and a separator too many":          func(l []api.Node) []api.Node { l[3] = branchOf(5, 1, []string{"g", "ll", "z"}, 0, 1, 2, 2); return l },
		"no kid":                                  func(l []api.Node) []api.Node { l[3].Kids = nil; return l },
		"no kid, no separator":                    func(l []api.Node) []api.Node { l[3].Kids, l[3].Seps = nil, nil; return l },
		"no separator":                            func(l []api.Node) []api.Node { l[3].Seps = nil; return l },
		"a separator too few":                     func(l []api.Node) []api.Node { l[3].Seps = l[3].Seps[:1]; return l },
		"a separator too many":                    func(l []api.Node) []api.Node { l[3].Seps = append(l[3].Seps, []byte("z")); return l },
		"an empty separator":                      func(l []api.Node) []api.Node { l[3].Seps[0] = nil; return l },
		"a separator of 256 bytes":                func(l []api.Node) []api.Node { l[3].Seps[1] = []byte("ll" + strings.Repeat("x", 254)); return l },
		"a separator that is the key ahead":       func(l []api.Node) []api.Node { l[3].Seps[0] = []byte("f"); return l },
		"a separator ahead of it":                 func(l []api.Node) []api.Node { l[3].Seps[0] = []byte("ez"); return l },
		"a separator behind the next key":         func(l []api.Node) []api.Node { l[3].Seps[0] = []byte("g\x00"); return l },
		"separators swapped":                      func(l []api.Node) []api.Node { l[3].Seps[0], l[3].Seps[1] = l[3].Seps[1], l[3].Seps[0]; return l },
		"a level of 0 with kids":                  func(l []api.Node) []api.Node { l[3].Level = 0; return l },
		"a level of 2 above leaves":               func(l []api.Node) []api.Node { l[3].Level = 2; return l },
		"a level below 0":                         func(l []api.Node) []api.Node { l[3].Level = -1; return l },
		"the least level":                         func(l []api.Node) []api.Node { l[3].Level = math.MinInt; return l },
		"a leaf of level 1":                       func(l []api.Node) []api.Node { l[1].Level = 1; return l },
		"a leaf of level -1":                      func(l []api.Node) []api.Node { l[1].Level = -1; return l },
		"a leaf with a kid":                       func(l []api.Node) []api.Node { l[1].Kids = []int{0}; return l },
		"a leaf with a separator":                 func(l []api.Node) []api.Node { l[1].Seps = [][]byte{[]byte("h")}; return l },
		"a leaf with an empty separator":          func(l []api.Node) []api.Node { l[1].Seps = [][]byte{nil}; return l },
		"a branch with a pair":                    func(l []api.Node) []api.Node { l[3].Pairs = l[1].Pairs[:1]; return l },
		"a branch with an empty pair":             func(l []api.Node) []api.Node { l[3].Pairs = make([]api.Pair, 1); return l },
		"a branch with a chain":                   func(l []api.Node) []api.Node { l[3].Chains = [][]int{{50}}; return l },
		"a branch with an empty chain":            func(l []api.Node) []api.Node { l[3].Chains = [][]int{nil}; return l },
		"a leaf without a pair":                   func(l []api.Node) []api.Node { l[1].Pairs, l[1].Chains = nil, nil; return l },
		"keys swapped":                            func(l []api.Node) []api.Node { p := l[1].Pairs; p[1], p[2] = p[2], p[1]; return l },
		"a key twice":                             func(l []api.Node) []api.Node { l[1].Pairs[2].Key = []byte("h"); return l },
		"a key of the leaf ahead":                 func(l []api.Node) []api.Node { l[1].Pairs[0].Key = []byte("f"); return l },
		"a key ahead of its separator":            func(l []api.Node) []api.Node { l[1].Pairs[0].Key = []byte("fff"); return l },
		"a key at the next separator":             func(l []api.Node) []api.Node { l[1].Pairs[5].Key = []byte("ll"); return l },
		"an empty key":                            func(l []api.Node) []api.Node { l[0].Pairs[0].Key = nil; return l },
		"a key of 256 bytes":                      func(l []api.Node) []api.Node { l[0].Pairs[0].Key = bytes.Repeat([]byte("a"), 256); return l },
		"a value of 262145 bytes":                 func(l []api.Node) []api.Node { l[2].Pairs[5].Value = make([]byte, 262145); return l },
		"a value of 262145 bytes without a chain": func(l []api.Node) []api.Node { l[2].Pairs[5].Value = make([]byte, 262145); l[2].Chains = nil; return l },
		"a new kid of a numbered branch":          func(l []api.Node) []api.Node { l[1].No = 0; return l },
		"a new leaf with a chain below it":        func(l []api.Node) []api.Node { l[0].No = 0; return l },
		"a new chain of a numbered leaf":          func(l []api.Node) []api.Node { l[0].Chains[2] = nil; return l },
		"a chain too short":                       func(l []api.Node) []api.Node { l[2].Chains[5] = []int{30, 31}; return l },
		"a chain too long":                        func(l []api.Node) []api.Node { l[2].Chains[5] = []int{30, 31, 32, 33}; return l },
		"a chain of a short value":                func(l []api.Node) []api.Node { l[1].Chains[0] = []int{40}; return l },
		"a chain at another pair":                 func(l []api.Node) []api.Node { c := l[0].Chains; c[1], c[2] = c[2], c[1]; return l },
		"a number twice":                          func(l []api.Node) []api.Node { l[1].No = 2; return l },
		"a leaf's number at its root":             func(l []api.Node) []api.Node { l[3].No = 4; return l },
		"a leaf's number in its chain":            func(l []api.Node) []api.Node { l[0].Chains[2][0] = 2; return l },
		"a leaf's number in another's chain":      func(l []api.Node) []api.Node { l[2].Chains[5][1] = 3; return l },
		"a chain's number at the root":            func(l []api.Node) []api.Node { l[3].No = 31; return l },
		"a number twice in a chain":               func(l []api.Node) []api.Node { l[2].Chains[5][1] = 30; return l },
		"a number in two chains":                  func(l []api.Node) []api.Node { l[2].Chains[5][1] = 20; return l },
		"the number 1":                            func(l []api.Node) []api.Node { l[1].No = 1; return l },
		"a number below 0":                        func(l []api.Node) []api.Node { l[1].No = -2; return l },
		"the number 524287":                       func(l []api.Node) []api.Node { l[3].No = 524287; return l },
		"the number 0 in a chain":                 func(l []api.Node) []api.Node { l[2].Chains[5][1] = 0; return l },
		"the number 1 in a chain":                 func(l []api.Node) []api.Node { l[2].Chains[5][1] = 1; return l },
		"the number 524287 in a chain":            func(l []api.Node) []api.Node { l[2].Chains[5][2] = 524287; return l },
		"a number far away":                       func(l []api.Node) []api.Node { l[3].No = math.MaxInt; return l },
		"leaves that can be joined":               func(l []api.Node) []api.Node { l[1] = leafOf(3, 300, "g"); return l },
		"a leaf that does not fit":                func(l []api.Node) []api.Node { l[1] = leafOf(3, 512, lettersOf("ghhijklkk")...); return l },
		"a branch of one kid above the root":      func(l []api.Node) []api.Node { return append(l, branchOf(6, 2, nil, 3)) },
		"a branch above the root that has it twice": func(l []api.Node) []api.Node {
			return append(l, branchOf(6, 2, []string{"z"}, 3, 3))
		},
	} {
		l := spoil(three())
		wantNoTree(t, name, l)
		if unsound(l) == "" {
			t.Errorf("%s: the plain judge takes it", name)
		}
	}
}

// What is new may stand at the top; what is below it may have numbers.
func TestP10_2NewAtTheTop(t *testing.T) {
	for name, change := range map[string]func(l []api.Node){
		"a new root":                       func(l []api.Node) { l[3].No = 0 },
		"a new root and leaf":              func(l []api.Node) { l[3].No, l[1].No = 0, 0 },
		"a new leaf whose chain is old":    func(l []api.Node) { l[3].No, l[0].No = 0, 0 },
		"a new leaf whose chain is new":    func(l []api.Node) { l[3].No, l[2].No, l[2].Chains[5] = 0, 0, nil },
		"all nodes new, all chains old":    func(l []api.Node) { l[3].No, l[2].No, l[1].No, l[0].No = 0, 0, 0, 0 },
		"the first and last number":        func(l []api.Node) { l[3].No, l[1].No, l[0].Chains[2][0] = 524286, 5, 524285 },
		"the longest key":                  func(l []api.Node) { l[0].Pairs[0].Key = bytes.Repeat([]byte("a"), 255) },
		"a separator of 255 bytes":         func(l []api.Node) { l[3].Seps[1] = []byte("ll" + strings.Repeat("x", 253)) },
		"a separator right behind the key": func(l []api.Node) { l[3].Seps[1] = []byte("l\x00") },
		"a separator that is the next key": func(l []api.Node) { l[3].Seps[1] = []byte("m") },
		"chains that fall":                 func(l []api.Node) { l[2].Chains[5] = []int{32, 31, 30} },
		"numbers that fall":                func(l []api.Node) { l[0].No, l[3].No = 5, 2 },
		"a value without bytes":            func(l []api.Node) { l[1].Pairs[0].Value = nil },
		"the longest value, its chain new": func(l []api.Node) { l[3].No, l[1].No, l[1].Pairs[0].Value = 0, 0, make([]byte, 262144) },
		"keys without a common beginning":  func(l []api.Node) { l[0].Pairs[0].Key = []byte{0} },
		"no list that is nil but those two": func(l []api.Node) {
			l[1].Seps, l[1].Kids, l[3].Pairs, l[3].Chains = [][]byte{}, []int{}, []api.Pair{}, [][]int{}
		},
	} {
		l := three()
		change(l)
		wantTree(t, name, l)
	}
}

// A leaf of 7 pairs of 518 bytes, one of 462, and 4 more fills its page.
func TestP10_2ALeafThatFits(t *testing.T) {
	full := leafOf(2, 512, lettersOf("abcdefg")...)
	full.Chains = append(full.Chains, nil)
	for size := 440; size <= 480; size++ {
		l := []api.Node{full}
		l[0].Pairs = append(slices.Clone(full.Pairs), api.Pair{Key: []byte("h"), Value: make([]byte, size)})
		if size <= 456 {
			wantTree(t, "a leaf that fits", l)
		} else {
			wantNoTree(t, "a leaf that does not fit", l)
		}
	}
}

// Leaves of 5 pairs of 518 bytes and one of 6 more than its value, and 4: together 2600 and that.
func TestP10_2LeavesThatCanBeJoined(t *testing.T) {
	for size := 390; size <= 410; size++ {
		for at := 1; at <= 5; at++ {
			whole := leafOf(0, 512, lettersOf("abcdef")...)
			whole.Pairs[5].Value = whole.Pairs[5].Value[:size]
			a, b := whole, whole
			a.No, a.Pairs, a.Chains = 2, whole.Pairs[:at], whole.Chains[:at]
			b.No, b.Pairs, b.Chains = 3, whole.Pairs[at:], whole.Chains[at:]
			l := []api.Node{a, b, branchOf(4, 1, []string{string(b.Pairs[0].Key)}, 0, 1)}
			if size > 400 {
				wantTree(t, "leaves of above 3000 bytes", l)
			} else {
				wantNoTree(t, "leaves of at most 3000 bytes", l)
			}
		}
	}
}

// edgeTree is a tree of leaves of two pairs each, whose keys have nothing in common. lens are the lengths of the separators between them; below each branch of level 1 there are so many of the leaves; above these there is a root, if they are several.
func edgeTree(lens []int, below ...int) []api.Node {
	var l []api.Node
	var seps []string
	key := func(i int) string { return string([]byte{byte(3 * i)}) + strings.Repeat("x", 254) }
	root := branchOf(0, 2, nil)
	leaves := 0
	for _, n := range below {
		b := branchOf(0, 1, nil)
		for i := range n {
			if leaves > 0 {
				seps = append(seps, key(2 * leaves)[:lens[leaves-1]])
			}
			switch {
			case i > 0:
				b.Seps = append(b.Seps, []byte(seps[leaves-1]))
			case leaves > 0:
				root.Seps = append(root.Seps, []byte(seps[leaves-1]))
			}
			b.Kids = append(b.Kids, len(l))
			l = append(l, leafOf(2+len(l), 500, key(2*leaves), key(2*leaves+1)))
			leaves++
		}
		b.No = 2 + len(l)
		root.Kids = append(root.Kids, len(l))
		l = append(l, b)
	}
	if len(below) == 1 {
		return l
	}
	root.No = 2 + len(l)
	return append(l, root)
}

// longs are n lengths of 255, and one more.
func longs(n, last int) []int { return append(slices.Repeat([]int{255}, n), last) }

// 15 separators of 255 bytes have 267 each; with 13 and one of 63, which has 74, they fill a page.
func TestP10_2ABranchThatFits(t *testing.T) {
	for n := 50; n <= 80; n++ {
		if l := edgeTree(longs(15, n), 17); n <= 63 {
			wantTree(t, "a branch that fits", l)
		} else {
			wantNoTree(t, "a branch that does not fit", l)
		}
	}
}

// 11 separators of 255 bytes and 13 come to 2950: one of 39 has 50 more. Whichever of them stands in the root, it counts.
func TestP10_2BranchesThatCanBeJoined(t *testing.T) {
	for n := 30; n <= 50; n++ {
		for at := 1; at <= 12; at++ {
			l := edgeTree(longs(11, n), at, 13-at)
			if n > 39 {
				wantTree(t, "branches of above 3000 bytes", l)
			} else {
				wantNoTree(t, "branches of at most 3000 bytes", l)
			}
		}
	}
}

// Two branches of level 1, of 6 and 7 leaves: what stands in the root is held against all that lies below it.
func TestP10_2TwoLevels(t *testing.T) {
	whole := func() []api.Node { return edgeTree(longs(12, 255), 6, 7) } // leaves 0 to 5, a branch 6, leaves 7 to 13, a branch 14, the root 15
	key := func(leaf, pair int) []byte { return whole()[leaf].Pairs[pair].Key }
	for name, sep := range map[string][]byte{
		"the shortest": key(7, 0)[:1], "the key behind": key(7, 0), "right behind the key ahead": append(key(5, 1)[:254:254], 'y'),
	} {
		l := whole()
		l[15].Seps[0] = sep
		if len(sep) < 255 {
			wantNoTree(t, name+", with which the branches can be joined", l)
			continue
		}
		wantTree(t, name, l)
	}
	for name, spoil := range map[string]func(l []api.Node) []api.Node{
		"the last key ahead as a separator":          func(l []api.Node) []api.Node { l[15].Seps[0] = key(5, 1); return l },
		"a separator among the keys ahead":           func(l []api.Node) []api.Node { l[15].Seps[0] = key(3, 0); return l },
		"a separator behind the first leaf ahead":    func(l []api.Node) []api.Node { l[15].Seps[0] = key(1, 0); return l },
		"a separator ahead of all":                   func(l []api.Node) []api.Node { l[15].Seps[0] = append(make([]byte, 254), 1); return l },
		"a separator among the keys behind":          func(l []api.Node) []api.Node { l[15].Seps[0] = key(7, 1); return l },
		"a separator ahead of the last leaf behind":  func(l []api.Node) []api.Node { l[15].Seps[0] = key(13, 0); return l },
		"a separator behind all":                     func(l []api.Node) []api.Node { l[15].Seps[0] = bytes.Repeat([]byte{255}, 255); return l },
		"a root of level 1":                          func(l []api.Node) []api.Node { l[15].Level = 1; return l },
		"a root of level 3":                          func(l []api.Node) []api.Node { l[15].Level = 3; return l },
		"a branch of level 2 in the middle":          func(l []api.Node) []api.Node { l[6].Level = 2; return l },
		"all branches a level up":                    func(l []api.Node) []api.Node { l[6].Level, l[14].Level, l[15].Level = 2, 2, 3; return l },
		"a new branch below a root with a number":    func(l []api.Node) []api.Node { l[6].No = 0; return l },
		"a new leaf below branches with a number":    func(l []api.Node) []api.Node { l[2].No = 0; return l },
		"branches swapped":                           func(l []api.Node) []api.Node { return slices.Concat(l[7:14], l[14:15], l[:7], l[15:]) },
		"a kid of the second branch below the first": func(l []api.Node) []api.Node { l[6].Kids[5] = 7; return l },
		"the first branch behind the second": func(l []api.Node) []api.Node {
			return slices.Concat(l[:6], l[7:14], l[6:7], l[14:])
		},
		"leaves below the root": func(l []api.Node) []api.Node {
			return append(l[:14], branchOf(40, 2, slices.Repeat([]string{"k"}, 7), 6, 7, 8, 9, 10, 11, 12, 13))
		},
		"a branch that is the root's kid twice": func(l []api.Node) []api.Node { l[15].Kids = []int{14, 14}; return l },
		"a stem":                                func(l []api.Node) []api.Node { return append(l[:7], branchOf(40, 2, nil, 6)) },
		"a stem above the root":                 func(l []api.Node) []api.Node { return append(l, branchOf(40, 3, nil, 15)) },
	} {
		l := spoil(whole())
		wantNoTree(t, name, l)
		if unsound(l) == "" {
			t.Errorf("%s: the plain judge takes it", name)
		}
	}
	wantTree(t, "a branch of one kid", edgeTree(longs(12, 255), 1, 12))
}

// A separator must not be the shortest.
func TestP10_2AnySeparator(t *testing.T) {
	for _, s := range []string{"e\x00", "ef", "ezzzz", "f", "g", "h"} {
		l := []api.Node{leafOf(2, 500, lettersOf("abcde")...), leafOf(3, 500, lettersOf("hijkl")...), branchOf(4, 1, []string{s}, 0, 1)}
		wantTree(t, "any separator", l)
	}
}

// mutate changes one thing of a list, or two.
func mutate(next func(int) int, l []api.Node) []api.Node {
	i := next(len(l))
	n := &l[i]
	small := func() int { return []int{-1, 0, 1, 2, 3, 5, 524286, 524287, len(l), i}[next(10)] }
	switch next(14) {
	case 0:
		n.No = small()
	case 1:
		n.Level += next(3) - 1
	case 2:
		return slices.Delete(l, i, i+1)
	case 3:
		return slices.Insert(l, i, l[next(len(l))])
	case 4:
		k := next(len(l))
		l[i], l[k] = l[k], l[i]
	case 5:
		if len(n.Kids) > 0 {
			n.Kids[next(len(n.Kids))] += next(3) - 1
		}
	case 6:
		if len(n.Seps) > 0 {
			k := next(len(n.Seps))
			n.Seps[k] = append(n.Seps[k], byte(next(256)))
		}
	case 7:
		if len(n.Seps) > 0 {
			k := next(len(n.Seps))
			n.Seps[k] = n.Seps[k][:next(len(n.Seps[k])+1)]
		}
	case 8:
		if len(n.Pairs) > 0 {
			k := next(len(n.Pairs))
			n.Pairs[k].Value = make([]byte, []int{0, 100, 512, 513, 600, 4085, 4086}[next(7)])
		}
	case 9:
		if len(n.Pairs) > 0 {
			k := next(len(n.Pairs))
			n.Pairs = slices.Delete(n.Pairs, k, k+1)
			n.Chains = slices.Delete(n.Chains, k, k+1)
		}
	case 10:
		if len(n.Pairs) > 0 {
			k := next(len(n.Pairs))
			n.Pairs[k].Key = append(n.Pairs[k].Key, byte(next(256)))
		}
	case 11:
		if len(n.Chains) > 0 {
			k := next(len(n.Chains))
			n.Chains[k] = append(n.Chains[k], small())
		}
	case 12:
		if len(n.Chains) > 0 {
			n.Chains[next(len(n.Chains))] = nil
		}
	case 13: // cut somewhere else: some pairs go over to the next leaf
		if i+1 < len(l) && len(n.Pairs) > 1 && l[i+1].Level == 0 {
			k := 1 + next(len(n.Pairs)-1)
			l[i+1].Pairs = slices.Concat(n.Pairs[k:], l[i+1].Pairs)
			l[i+1].Chains = slices.Concat(n.Chains[k:], l[i+1].Chains)
			n.Pairs, n.Chains = n.Pairs[:k], n.Chains[:k]
		}
	}
	return l
}

// Lists of all trees with one thing changed or two: Build takes just those that the plain judge takes.
func TestP10_2Mutations(t *testing.T) {
	next := noise(102)
	taken, refused := 0, 0
	trees := full(t)
	for _, name := range names(trees) {
		x := trees[name]
		if x.Len() == 0 {
			continue
		}
		was := x.Nodes()
		for range 15 + 200/len(was) {
			l := mutate(next, x.Nodes())
			if next(4) == 0 && len(l) > 0 {
				l = mutate(next, l)
			}
			if slices.EqualFunc(l, was, equalNode) {
				continue
			}
			if why := unsound(l); why == "" {
				wantTree(t, name, l)
				taken++
			} else {
				wantNoTree(t, name+": "+why, l)
				refused++
			}
		}
	}
	if taken < 300 || refused < 1000 {
		t.Errorf("only %d were taken, and %d refused", taken, refused)
	}
}

// A list may be long and deep without being a tree's; the call ends all the same.
func TestP10_2LongLists(t *testing.T) {
	l := []api.Node{leafOf(0, 5, "a")}
	for i := range 300000 {
		l = append(l, branchOf(0, i+1, nil, i))
	}
	wantNoTree(t, "a stem without a fork", l)
	for i := range l {
		l[i] = leafOf(0, 5, "a")
	}
	wantNoTree(t, "leaves alone", l)
	wide := branchOf(0, 1, slices.Repeat([]string{"a"}, len(l)-1))
	for i := range l {
		wide.Kids = append(wide.Kids, i)
	}
	wantNoTree(t, "one branch above all", append(l, wide))
	for i := range l {
		l[i] = api.Node{}
	}
	wantNoTree(t, "nodes of nothing", l)
}
