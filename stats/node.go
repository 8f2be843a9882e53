package stats

import (
	"coppice/api"
	"coppice/branch"
	"coppice/chain"
	"coppice/leaf"
	"coppice/tree"
)

// node is a leaf or a branch of a tree, with its size.
type node struct {
	api.Node
	size int
}

// nodesOf are all nodes of a tree.
func nodesOf(t *tree.Tree) []node {
	var l []node
	for _, n := range t.Nodes() {
		l = append(l, node{Node: n, size: sizeOf(n)})
	}
	return l
}

// sizeOf is how many bytes of its body a node's page uses.
func sizeOf(n api.Node) int {
	if n.Level > 0 {
		return branch.Size(n.Seps)
	}
	items := make([]api.Item, len(n.Pairs))
	for i, p := range n.Pairs {
		// Where a chain begins has four bytes whatever the number: it is not looked at.
		items[i] = api.Item{Key: p.Key, Size: len(p.Value)}
	}
	return leaf.Size(items)
}

// atLevel are the nodes of one level.
func atLevel(nodes []node, level int) []node {
	var l []node
	for _, n := range nodes {
		if n.Level == level {
			l = append(l, n)
		}
	}
	return l
}

// leafSizes are the sizes of a tree's leaves, from the first to the last one.
func leafSizes(t *tree.Tree) []int {
	var sizes []int
	for _, n := range atLevel(nodesOf(t), 0) {
		sizes = append(sizes, n.size)
	}
	return sizes
}

// tally is a number that is counted node by node, and what it comes to with one node more.
type tally struct {
	number *int
	with   func(n node, was int) int
}

// added is the tally of a number to which each node adds something.
func added(number *int, of func(n node) int) tally {
	return tally{number, func(n node, was int) int { return was + of(n) }}
}

// count goes through nodes, and counts all tallies of each.
func count(nodes []node, tallies []tally) {
	for _, n := range nodes {
		for _, t := range tallies {
			*t.number = t.with(n, *t.number)
		}
	}
}

func (n node) one() int { return 1 }

func (n node) bytes() int { return n.size }

func (n node) least(was int) int { return min(was, n.size) }

func (n node) most(was int) int { return max(was, n.size) }

func (n node) keys() int { return len(n.Pairs) }

func (n node) keyBytes() int {
	sum := 0
	for _, p := range n.Pairs {
		sum += len(p.Key)
	}
	return sum
}

func (n node) valueBytes() int {
	sum := 0
	for _, p := range n.Pairs {
		sum += len(p.Value)
	}
	return sum
}

// pages is how many there are of the node: its own, and those of its chains.
func (n node) pages() int {
	sum := 1
	for _, p := range n.Pairs {
		sum += chain.Pages(len(p.Value))
	}
	return sum
}

// used is the node's size, and the bytes of its values that lie in chains.
func (n node) used() int {
	sum := n.size
	for _, p := range n.Pairs {
		if len(p.Value) > api.MaxInline {
			sum += len(p.Value)
		}
	}
	return sum
}
