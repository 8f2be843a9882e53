package tree_test

import (
	"fmt"
	"slices"
	"strings"
	"sync"
	"testing"

	"coppice/api"
	"coppice/tree"
)

// wantAsPlain asks all that a tree tells beside the plain one.
func wantAsPlain(t *testing.T, name string, x *tree.Tree, p *plainTree) {
	t.Helper()
	want := p.nodes()
	wantNodes(t, name, x, want)
	height := 0
	if p.root != nil {
		height = p.root.level() + 1
	}
	if x.Height() != height || x.Len() != len(p.pairs()) || x.Fresh() != p.freshPages() {
		t.Fatalf("%s: height %d, %d pairs, %d fresh; not %d, %d, %d", name, x.Height(), x.Len(), x.Fresh(), height, len(p.pairs()), p.freshPages())
	}
}

// beside plays steps on a tree and on the plain one, numbers both now and then, and asks every so many steps whether they are the same.
func beside(t *testing.T, name string, next func(int) int, steps []step, x *tree.Tree, p *plainTree, every int) {
	t.Helper()
	no := 2
	for _, n := range x.Numbers() {
		no = max(no, n)
	}
	play(t, steps, x, func(i int, s step, before, after *tree.Tree) *tree.Tree {
		if s.gone {
			p.without(s.key)
		} else {
			p.with(s.key, s.value)
		}
		if i%every == 0 || after.Len() < 30 {
			wantAsPlain(t, fmt.Sprintf("%s, step %d", name, i), after, p)
		}
		if next(4) > 0 {
			return after
		}
		var nos []int
		for range after.Fresh() {
			no++
			nos = append(nos, no)
		}
		if next(2) == 0 {
			slices.Reverse(nos)
		}
		p.number(nos)
		y, err := after.Numbered(nos)
		if err != api.OK {
			t.Fatalf("%s, step %d: Numbered: %d", name, i, err)
		}
		return y
	})
}

// counter adds up what was seen by many hands.
type counter struct {
	sync.Mutex
	seen map[string]int
}

// add adds up what one has seen.
func (c *counter) add(seen map[string]int) {
	c.Lock()
	defer c.Unlock()
	for what, n := range seen {
		c.seen[what] += n
	}
}

// want asks that each of these was seen as often at least.
func (c *counter) want(t *testing.T, least map[string]int) {
	t.Helper()
	for _, what := range names(least) {
		if c.seen[what] < least[what] {
			t.Errorf("only %d times: %s", c.seen[what], what)
		}
	}
}

// Every wood is grown, changed and felled beside the plain tree, and numbered on the way: the nodes are the same, with their numbers.
func TestP10_6Woods(t *testing.T) {
	all := &counter{seen: map[string]int{}}
	t.Run("all", func(t *testing.T) {
		for k, w := range woods() {
			t.Run(w.name, func(t *testing.T) {
				t.Parallel()
				seen := map[string]int{}
				for way := range 4 {
					next := noise(uint64(100*k + way))
					beside(t, fmt.Sprintf("way %d", way), next, w.steps(next, way), tree.Empty(), &plainTree{seen: seen}, 1+w.pairs/40)
				}
				all.add(seen)
			})
		}
	})
	all.want(t, map[string]int{
		"leaves joined": 700, "branches joined": 25, "a leaf cut": 1000, "a branch cut": 30, "a branch of one kid": 50,
		"none of level 0, first false": 100, "none of level 0, first true": 100,
		"none of level 1, first false": 2, "none of level 1, first true": 2,
		"a new root": 30, "a kid is the root": 30, "an old kid is the root": 5, "cut and joined": 10,
	})
}

// hedgeSteps take out and lay in, most of it close together.
func hedgeSteps(next func(int) int, keys, n int) []step {
	var l []step
	at := 1 + next(4*keys+4)
	for range n {
		if next(12) == 0 {
			at = 1 + next(4*keys+4)
		}
		key := hedgeKey(max(1, at+next(41)-20))
		if next(4) == 0 {
			l = append(l, step{key: key, value: anyOf(next, []int{500, 500, 512, 100, 0, 513}[next(6)], "v")})
			continue
		}
		l = append(l, step{key: key, gone: true})
	}
	return l
}

// Hedges have small leaves and branches side by side below unlike branches: what is joined there is joined at the seam, too, through all levels.
func TestP10_7Hedges(t *testing.T) {
	all := &counter{seen: map[string]int{}}
	t.Run("all", func(t *testing.T) {
		for hand := range 8 {
			t.Run(fmt.Sprint(hand), func(t *testing.T) {
				t.Parallel()
				next := noise(uint64(1070 + hand))
				seen := map[string]int{}
				for round := range 15 {
					l := hedgeOf(next, 1+round%3)
					if why := unsound(l); why != "" {
						t.Fatalf("no hedge: %s\n%s", why, tell(l))
					}
					x := built(t, l)
					beside(t, fmt.Sprintf("round %d", round), next, hedgeSteps(next, x.Len(), min(4*x.Len(), 500)), x, plainFrom(l, seen), 6)
				}
				all.add(seen)
			})
		}
	})
	all.want(t, map[string]int{
		"leaves joined": 1000, "branches joined": 200,
		"joined at a seam, level 0": 100, "joined at a seam, level 1": 10,
		"none of level 1, first false": 2, "cut and joined": 20, "joined twice": 10,
	})
}

// wantLeaves asks for the keys of all leaves in few words, and the separators of the root.
func wantLeaves(t *testing.T, name string, x *tree.Tree, leaves, seps string) {
	t.Helper()
	var got, between []string
	l := x.Nodes()
	for _, n := range l {
		if n.Level > 0 {
			continue
		}
		s := ""
		for _, p := range n.Pairs {
			s += string(p.Key)
		}
		got = append(got, s)
	}
	for _, s := range l[len(l)-1].Seps {
		between = append(between, string(s))
	}
	if strings.Join(got, " ") != leaves || strings.Join(between, " ") != seps {
		t.Errorf("%s: leaves %q, separators %q; not %q, %q", name, got, between, leaves, seps)
	}
}

// nosOf are the numbers of the nodes, in their order.
func nosOf(x *tree.Tree) []int {
	var l []int
	for _, n := range x.Nodes() {
		l = append(l, n.No)
	}
	return l
}

// wantNos asks for the numbers of the nodes, post-order.
func wantNos(t *testing.T, name string, x *tree.Tree, want ...int) {
	t.Helper()
	if got := nosOf(x); !slices.Equal(got, want) {
		t.Errorf("%s: the nodes have the numbers %v, not %v", name, got, want)
	}
}

// flat is a tree of leaves of one-letter keys, of 506 bytes a pair, under one root; the numbers go from 2 on.
func flat(t *testing.T, leaves, seps string) *tree.Tree {
	t.Helper()
	var l []api.Node
	root := branchOf(0, 1, strings.Fields(seps))
	for i, keys := range strings.Fields(leaves) {
		l = append(l, leafOf(2+i, 500, lettersOf(keys)...))
		root.Kids = append(root.Kids, i)
	}
	root.No = 2 + len(l)
	return built(t, append(l, root))
}

func TestP10_6Examples(t *testing.T) {
	x := lettered(t, "abcdefgh")
	wantLeaves(t, "eight", x, "abcdefgh", "")
	if x.Height() != 1 || x.Fresh() != 1 {
		t.Errorf("eight: height %d, fresh %d", x.Height(), x.Fresh())
	}
	x = with(t, x, "i", v500)
	wantLeaves(t, "nine", x, "abcd efghi", "e")
	if x.Height() != 2 || x.Fresh() != 3 {
		t.Errorf("nine: height %d, fresh %d", x.Height(), x.Fresh())
	}
	y := without(t, without(t, without(t, x, "e"), "f"), "g")
	wantLeaves(t, "six", y, "abcd hi", "e")
	y = without(t, y, "h")
	wantLeaves(t, "five", y, "abcdi", "")
	if y.Height() != 1 || y.Fresh() != 1 {
		t.Errorf("five: height %d, fresh %d", y.Height(), y.Fresh())
	}
}

// None: the leaf goes, and with it the separator ahead of it; of the first one the one behind it.
func TestP10_6None(t *testing.T) {
	x := flat(t, "a bcdef g hijkl m", "az fz gz lz")
	y := without(t, x, "g")
	wantLeaves(t, "one in the middle", y, "a bcdef hijkl m", "az gz lz")
	wantNos(t, "one in the middle", y, 2, 3, 5, 6, 0)
	y = without(t, x, "a")
	wantLeaves(t, "the first one", y, "bcdef g hijkl m", "fz gz lz")
	wantNos(t, "the first one", y, 3, 4, 5, 6, 0)
	y = without(t, x, "m")
	wantLeaves(t, "the last one", y, "a bcdef g hijkl", "az fz gz")
	wantNos(t, "the last one", y, 2, 3, 4, 5, 0)
}

// Of two leaves one goes: the other one is the root, as it was, and nothing is new.
func TestP10_6AnOldKidIsTheRoot(t *testing.T) {
	first := without(t, flat(t, "bcdef g", "fz"), "g")
	wantNos(t, "the first one is left", first, 2)
	second := without(t, flat(t, "a bcdef", "b"), "a")
	wantNos(t, "the second one is left", second, 3)
	for _, x := range []*tree.Tree{first, second} {
		wantLeaves(t, "one is left", x, "bcdef", "")
		if x.Height() != 1 || x.Fresh() != 0 || len(x.Numbers()) != 1 {
			t.Errorf("height %d, %d fresh, numbers %v", x.Height(), x.Fresh(), x.Numbers())
		}
	}
}

// Two: the new separator is the shortest between the parts, and stands between them.
func TestP10_6Two(t *testing.T) {
	x := flat(t, "abcde ghijlmno qrstu", "f pz")
	y := with(t, x, "k", v500)
	wantLeaves(t, "one in the middle is new", y, "abcde ghij klmno qrstu", "f k pz")
	wantNos(t, "one in the middle is new", y, 2, 0, 0, 4, 0)
	y = with(t, x, "f", v500)
	wantLeaves(t, "the first one is new", y, "abcde fghi jlmno qrstu", "f j pz")
	y = with(t, x, "p", v500)
	wantLeaves(t, "the last one is new", y, "abcde ghij lmnop qrstu", "f l pz")
	y = with(t, built(t, []api.Node{leafOf(2, 500, "ka", "kb", "kc", "kd", "kee", "kf", "kg", "kh")}), "ki", v500)
	wantLeaves(t, "a root is cut", y, "kakbkckd keekfkgkhki", "ke")
	wantNos(t, "a root is cut", y, 0, 0, 0)
}

// A leaf of 4092 bytes fits, and so does a branch.
func TestP10_6JustFull(t *testing.T) {
	leaf := leafOf(2, 512, lettersOf("abcdefg")...)
	for size := 450; size <= 460; size++ {
		x := with(t, built(t, []api.Node{leaf}), "h", strings.Repeat("v", size)) // 3636 and the value's
		if height := x.Height(); (height == 1) != (size <= 456) {
			t.Errorf("a value of %d bytes: height %d", size, height)
		}
	}
	// 17 kids with separators of 255 bytes, one of 63, fill the root: what changes below it does not cut it.
	l := edgeTree(longs(15, 63), 17)
	x := built(t, l)
	y := with(t, x, string(l[0].Pairs[0].Key), strings.Repeat("w", 500))
	if y.Height() != 2 || y.Fresh() != 2 || !slices.EqualFunc(y.Nodes()[17].Seps, l[17].Seps, slices.Equal[[]byte]) {
		t.Errorf("a full root: height %d, %d fresh", y.Height(), y.Fresh())
	}
	// Its leaves have two pairs, of 5 that fit: at the fourth more the first one is cut, and so is the root.
	for i := range 4 {
		if y.Height() != 2 {
			t.Errorf("a full root: height %d", y.Height())
		}
		y = with(t, y, string([]byte{0, byte(i)})+strings.Repeat("y", 253), v500)
	}
	if y.Height() != 3 {
		t.Errorf("a root that was full: height %d", y.Height())
	}
}

// What was cut can be joined with its neighbours.
func TestP10_6CutAndJoined(t *testing.T) {
	x := flat(t, "a bcdfghij lmnop", "b l")
	y := with(t, x, "e", v500)
	wantLeaves(t, "the first part with the leaf ahead", y, "abcde fghij lmnop", "f l")
	wantNos(t, "the first part with the leaf ahead", y, 0, 0, 4, 0)
	x = flat(t, "abcde ghijlmno p", "f p")
	y = with(t, x, "k", v500)
	wantLeaves(t, "the second part is too great", y, "abcde ghij klmno p", "f k p")
	x = numbered(t, with(t, x, "o", v500[:100]), 20)
	y = with(t, x, "k", v500)
	wantLeaves(t, "the second part with the leaf behind", y, "abcde ghij klmnop", "f k")
	wantNos(t, "the second part with the leaf behind", y, 2, 0, 0, 0)
}

// The leftmost two that can be joined are joined; then the next ones, if they still can.
func TestP10_6TheLeftmostTwo(t *testing.T) {
	x := flat(t, "abc def ghi", "d g")
	y := without(t, x, "e")
	wantLeaves(t, "both neighbours would do", y, "abcdf ghi", "g")
	wantNos(t, "both neighbours would do", y, 0, 4, 0)
	y = without(t, x, "a")
	wantLeaves(t, "the first one changed", y, "bcdef ghi", "g")
	y = without(t, x, "i")
	wantLeaves(t, "the last one changed", y, "abc defgh", "d")
	wantNos(t, "the last one changed", y, 2, 0, 0)
	y = without(t, flat(t, "abcde fgh ijk", "f i"), "g")
	wantLeaves(t, "only the right neighbour will do", y, "abcde fhijk", "f")
	wantNos(t, "only the right neighbour will do", y, 2, 0, 0)
}

// A leaf of 2900 bytes between two of 105: each two come to 3001. Without 518 of them all three are one.
func TestP10_6JoinedTwice(t *testing.T) {
	middle := leafOf(3, 512, lettersOf("bcdef")...)
	middle.Pairs = append(middle.Pairs, api.Pair{Key: []byte("g"), Value: make([]byte, 300)})
	middle.Chains = append(middle.Chains, nil)
	x := built(t, []api.Node{leafOf(2, 95, "a"), middle, leafOf(4, 95, "h"), branchOf(5, 1, []string{"b", "h"}, 0, 1, 2)})
	y := without(t, x, "d")
	wantLeaves(t, "three in one", y, "abcefgh", "")
	wantNos(t, "three in one", y, 0)
	y = with(t, x, "d", strings.Repeat("v", 511)) // 3000
	wantLeaves(t, "a byte less", y, "abcdefg h", "h")
	wantNos(t, "a byte less", y, 0, 4, 0)
}

// A branch of 13 kids over two: one leaf fewer, and the branches are joined; the leaves at their seam, too; and the branch is the root.
func TestP10_7AtTheSeam(t *testing.T) {
	h := &hedge{}
	for _, pairs := range []int{3, 1, 3, 1, 3, 1} {
		h.leaf(pairs)
	}
	left := h.l
	sepsOf := func(from, to int) []string { return h.head[from:to] }
	h.l, h.head = append(h.l, branchOf(8, 1, sepsOf(1, 6), 0, 1, 2, 3, 4, 5)), append(h.head, h.head[0])
	for _, pairs := range []int{1, 3, 1, 3, 1, 3, 1} {
		h.leaf(pairs)
	}
	right := slices.Clone(h.l[7:])
	h.l = append(h.l, branchOf(16, 1, sepsOf(8, 14), 7, 8, 9, 10, 11, 12, 13), branchOf(17, 2, sepsOf(7, 8), 6, 14))
	x := built(t, h.l)
	y := without(t, x, string(left[0].Pairs[1].Key))

	join := func(a, b api.Node) api.Node {
		return api.Node{Pairs: slices.Concat(a.Pairs, b.Pairs), Chains: slices.Concat(a.Chains, b.Chains)}
	}
	first := left[0]
	first.Pairs = slices.Delete(slices.Clone(first.Pairs), 1, 2)
	first.Chains = first.Chains[1:]
	want := []api.Node{join(first, left[1]), left[2], left[3], left[4], join(left[5], right[0])}
	want = append(want, right[1:]...)
	want = append(want, branchOf(0, 1, slices.Concat(sepsOf(2, 6), sepsOf(8, 14)), 0, 1, 2, 3, 4, 5, 6, 7, 8, 9, 10))
	wantNodes(t, "joined at the seam", y, want)
	if x.Height() != 3 || y.Height() != 2 || y.Fresh() != 3 {
		t.Errorf("heights %d and %d, %d fresh", x.Height(), y.Height(), y.Fresh())
	}
}

// The separator that stood between two branches stands between their kids, as it was, if these are not joined.
func TestP10_7TheSeparatorBetween(t *testing.T) {
	h := &hedge{}
	for range 13 {
		h.leaf(2)
	}
	var l []api.Node
	l = append(l, h.l[:6]...)
	l = append(l, branchOf(30, 1, h.head[1:6], 0, 1, 2, 3, 4, 5))
	l = append(l, h.l[6:]...)
	between := h.head[6][:2]
	l = append(l, branchOf(31, 1, h.head[7:13], 7, 8, 9, 10, 11, 12, 13), branchOf(32, 2, []string{between + "a"}, 6, 14))
	// A short separator would let them be joined: this one has 255 bytes, as all others.
	l[15].Seps[0] = []byte(between + strings.Repeat("a", 253))
	x := built(t, l)
	y := without(t, x, string(h.l[0].Pairs[0].Key))
	want := []api.Node{{Pairs: slices.Concat(h.l[0].Pairs[1:], h.l[1].Pairs), Chains: make([][]int, 3)}}
	want = append(want, h.l[2:]...)
	seps := slices.Concat(h.head[2:6], []string{string(l[15].Seps[0])}, h.head[7:13])
	want = append(want, branchOf(0, 1, seps, 0, 1, 2, 3, 4, 5, 6, 7, 8, 9, 10, 11))
	wantNodes(t, "joined", y, want)
}

// Every node on the way is new, and no other one.
func TestP10_8TheWay(t *testing.T) {
	next := noise(108)
	for round := range 12 {
		x := built(t, hedgeOf(next, 1+round%3))
		l := x.Nodes()
		for _, p := range plainFrom(l, nil).pairs() {
			y := with(t, x, p.key, strings.Repeat("w", 500))
			news := 0
			for i, n := range y.Nodes() {
				if n.No == 0 {
					news++
				} else if !equalNode(n, l[i]) {
					t.Fatalf("the node at %d is another one", i)
				}
			}
			if news != x.Height() || y.Fresh() != news {
				t.Errorf("%d nodes are new, of a tree of height %d", news, x.Height())
			}
		}
	}
}

// chained is a leaf whose pair at i has a chain of these pages.
func chained(n api.Node, i, size int, pages ...int) api.Node {
	n.Pairs[i].Value = make([]byte, size)
	n.Chains[i] = pages
	return n
}

// A pair that stays keeps its chain, in whichever node it stands: in a leaf that is cut, in one that is joined, in one that is changed.
func TestP10_8Chains(t *testing.T) {
	x := built(t, []api.Node{
		chained(leafOf(2, 500, lettersOf("abcd")...), 1, 600, 20), chained(leafOf(3, 500, lettersOf("efghjklm")...), 7, 9000, 30, 21, 40),
		branchOf(4, 1, []string{"e"}, 0, 1),
	})
	y := with(t, with(t, x, "i", v500), "n", v500)
	wantLeaves(t, "cut", y, "abcd efghi jklmn", "e j")
	l := y.Nodes()
	if !slices.Equal(l[0].Chains[1], []int{20}) || !slices.Equal(l[2].Chains[3], []int{30, 21, 40}) || y.Fresh() != 3 {
		t.Errorf("cut: %d fresh\n%s", y.Fresh(), tell(l))
	}
	for _, k := range lettersOf("efghjkl") {
		x = without(t, x, k)
	}
	wantLeaves(t, "joined", x, "abcdm", "")
	l = x.Nodes()
	if !slices.Equal(l[0].Chains[1], []int{20}) || !slices.Equal(l[0].Chains[4], []int{30, 21, 40}) || x.Fresh() != 1 {
		t.Errorf("joined: %d fresh\n%s", x.Fresh(), tell(l))
	}
	if got := x.Numbers(); !slices.Equal(got, []int{20, 21, 30, 40}) {
		t.Errorf("joined: numbers %v", got)
	}
}

// A pair that is replaced has a new chain, of a value as long, too; none, if its value is short now.
func TestP10_8AReplacedChain(t *testing.T) {
	x := built(t, []api.Node{chained(chained(leafOf(2, 500, lettersOf("abc")...), 1, 600, 20), 2, 513, 22)})
	for size, fresh := range map[int]int{600: 2, 513: 2, 4086: 3, 512: 1, 0: 1, 262144: 66} {
		y := with(t, x, "b", strings.Repeat("w", size))
		l := y.Nodes()
		if len(l[0].Chains[1]) != 0 || y.Fresh() != fresh || !slices.Equal(y.Numbers(), []int{22}) {
			t.Errorf("%d bytes: chains %v, %d fresh, numbers %v", size, l[0].Chains, y.Fresh(), y.Numbers())
		}
	}
}

// A pair that is laid in and taken out again leaves new nodes.
func TestP10_8LaidInAndTakenOut(t *testing.T) {
	x := flat(t, "abcde fghij klmno", "f k")
	y := without(t, with(t, x, "gg", ""), "gg")
	wantLeaves(t, "taken out again", y, "abcde fghij klmno", "f k")
	wantNos(t, "taken out again", y, 2, 0, 4, 0)
	y = with(t, with(t, x, "g", "other"), "g", v500)
	wantLeaves(t, "replaced twice", y, "abcde fghij klmno", "f k")
	wantNos(t, "replaced twice", y, 2, 0, 4, 0)
	wantNos(t, "as it was", x, 2, 3, 4, 5)
}
