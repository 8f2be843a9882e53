package stats_test

import (
	"bytes"
	"slices"
	"testing"

	"coppice/api"
	"coppice/chain"
	"coppice/stats"
	"coppice/tree"
)

// chainPages tells how many pages the chains of a tree have.
func chainPages(x *tree.Tree) int {
	n := 0
	for _, l := range x.Nodes() {
		for _, p := range l.Pairs {
			n += chain.Pages(len(p.Value))
		}
	}
	return n
}

// TestP22_6Pages: the nodes of all levels and the pages of chains are Pages; so with the bytes.
func TestP22_6Pages(t *testing.T) {
	t.Parallel()
	for _, g := range groves(t) {
		nodes, used := 0, 0
		for i, l := range stats.Levels(g.x) {
			nodes, used = nodes+l.Nodes, used+l.Used
			if l.Level != i || l.Nodes < 1 {
				t.Errorf("%s: the level %d is %s", g.name, i, told(l))
			}
		}
		s := stats.Of(g.x)
		if s.Pages != nodes+chainPages(g.x) || s.Used < used || chainPages(g.x) == 0 && s.Used != used {
			t.Errorf("%s: %s; its levels have %d nodes and %d bytes", g.name, told(s), nodes, used)
		}
	}
}

// TestP22_6Heights: there are as many levels as the tree is high, and the last one has one node.
func TestP22_6Heights(t *testing.T) {
	t.Parallel()
	for _, g := range groves(t) {
		l := stats.Levels(g.x)
		if len(l) != g.x.Height() || len(l) > 0 && l[len(l)-1].Nodes != 1 {
			t.Errorf("%s: of height %d, the levels %s", g.name, g.x.Height(), told(l))
		}
	}
}

// bounded asks what a level's shares lie within.
func bounded(t *testing.T, what string, l stats.Level) {
	t.Helper()
	if least, most := float64(l.Least)/4092, float64(l.Most)/4092; l.Mean < least || l.Mean > most {
		t.Errorf("%s: Mean %v is not from %v to %v", what, l.Mean, least, most)
	}
	if l.Spread < 0 || (l.Spread == 0) != (l.Least == l.Most) {
		t.Errorf("%s: Spread %v with sizes from %d to %d", what, l.Spread, l.Least, l.Most)
	}
}

// TestP22_6Shares: Mean lies within Least and Most; Spread is 0 just if these are one.
func TestP22_6Shares(t *testing.T) {
	t.Parallel()
	for _, g := range groves(t) {
		for _, l := range stats.Levels(g.x) {
			bounded(t, g.name, l)
		}
	}
	next := noise(226)
	for range 400 { // nearly alike: all but a few of one size
		size, n := 1600+next(2490), 1+next(60)
		sizes := slices.Repeat([]int{size}, n)
		for range next(3) {
			sizes[next(n)] += next(3)
		}
		l := stats.Levels(rowOf(t, sizes...))[0]
		bounded(t, "nearly alike", l)
		if l.Most == l.Least && !sameBits(l.Mean, float64(l.Least)/4092) {
			t.Errorf("%d leaves of %d: Mean is %v", n, size, l.Mean)
		}
	}
}

// TestP22_6Parts: the parts added up are the leaves.
func TestP22_6Parts(t *testing.T) {
	t.Parallel()
	for _, g := range groves(t) {
		leaves := 0
		if l := stats.Levels(g.x); len(l) > 0 {
			leaves = l[0].Nodes
		}
		for _, n := range []int{1, 2, 3, 33, 1000} {
			sum := 0
			l, err := stats.Parts(g.x, n)
			for _, k := range l {
				sum += k
			}
			if err != api.OK || len(l) != n || sum != leaves {
				t.Errorf("%s: %d parts of %d leaves; asked for %d, there are %d", g.name, len(l), sum, n, leaves)
			}
		}
	}
}

// TestP22_6Rises: Quantile rises with the share, from the least leaf to the greatest.
func TestP22_6Rises(t *testing.T) {
	t.Parallel()
	next := noise(2261)
	for _, g := range groves(t) {
		if g.x.Len() == 0 {
			continue
		}
		leaves := stats.Levels(g.x)[0]
		was := float64(leaves.Least) / 4092
		quantileIs(t, g.name, g.x, 0, was)
		quantileIs(t, g.name, g.x, 1, float64(leaves.Most)/4092)
		l := shares(next, 20)
		slices.Sort(l)
		for _, q := range l {
			f, err := stats.Quantile(g.x, q)
			if err != api.OK || f < was || f > float64(leaves.Most)/4092 {
				t.Errorf("%s: at %v it is %v, %d, behind %v", g.name, q, f, err, was)
			}
			was = f
		}
	}
}

// TestP22_7SameNodes: a tree built of another's nodes, with the numbers or without them or with others, has its answers.
func TestP22_7SameNodes(t *testing.T) {
	t.Parallel()
	for _, g := range groves(t) {
		want := askedOf(g.x)
		nodes := g.x.Nodes()
		again := built(t, nodes)
		for i := range nodes {
			nodes[i].No, nodes[i].Chains = 0, nil
		}
		bare := built(t, nodes)
		for what, x := range map[string]*tree.Tree{"built again": again, "without numbers": bare, "with low numbers": numbered(t, bare, 2), "with high numbers": numbered(t, bare, 500000)} {
			if !askedOf(x).same(want) {
				t.Errorf("%s, %s: other answers", g.name, what)
			}
		}
	}
}

// TestP22_7Order: pairs laid in one way or the other, with others that have gone again, if the nodes are the same.
func TestP22_7Order(t *testing.T) {
	x := letters(t, 500, 500, 500, 500, 500, 500)
	y := tree.Empty()
	for _, k := range "fbxadcey" {
		y = with(t, y, string(k), 300)
	}
	for _, k := range "eafcbd" {
		y = with(t, y, string(k), 500)
	}
	for _, k := range "xy" {
		y, _ = y.Without([]byte(string(k)))
	}
	if y.Height() != 1 || !askedOf(x).same(askedOf(y)) {
		t.Errorf("of height %d: %s, not %s", y.Height(), told(askedOf(y)), told(askedOf(x)))
	}
}

// TestP22_7Sizes: leaves that stand in another order, or say something else, but have the same sizes.
func TestP22_7Sizes(t *testing.T) {
	t.Parallel()
	next := noise(227)
	for range 40 {
		sizes := anySizes(next, 2+next(50))
		x := rowOf(t, sizes...)
		want := askedOf(x)
		for i := range sizes {
			k := next(i + 1)
			sizes[i], sizes[k] = sizes[k], sizes[i]
		}
		if !askedOf(rowOf(t, sizes...)).same(want) {
			t.Errorf("%d leaves in another order: other answers", len(sizes))
		}
		nodes := x.Nodes()
		for _, n := range nodes {
			for _, p := range n.Pairs {
				p.Key[2] += 30
				copy(p.Value, bytes.Repeat([]byte{byte(next(256))}, len(p.Value)))
			}
		}
		if !askedOf(built(t, nodes)).same(want) {
			t.Errorf("%d leaves that say something else: other answers", len(sizes))
		}
	}
}
