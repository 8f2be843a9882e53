package tree

import (
	"bytes"
	"slices"
	"sort"

	"coppice/api"
	"coppice/branch"
	"coppice/cut"
	"coppice/keys"
)

// branchNode is a branch: the row of its kids, under a number.
type branchNode struct {
	no int
	row
}

// settledBranch is what a branch becomes that has these kids now: none, one or two.
func settledBranch(kids row) row {
	switch {
	case len(kids.nodes) == 0:
		return row{}
	case cut.Fits(branch.Size(kids.seps)):
		return alone(&branchNode{row: kids})
	}
	i := cut.Branch(kids.seps)
	first := row{nodes: kids.nodes[:i], seps: kids.seps[:i-1]}
	second := row{nodes: kids.nodes[i:], seps: kids.seps[i:]}
	return both(&branchNode{row: first}, kids.seps[i-1], &branchNode{row: second})
}

// place tells below which kid a key belongs: behind as many separators as are not above it.
func (b *branchNode) place(key []byte) int {
	return sort.Search(len(b.seps), func(i int) bool { return keys.Compare(b.seps[i], key) > 0 })
}

func (b *branchNode) number() int { return b.no }

func (b *branchNode) level() int { return b.row.level() + 1 }

func (b *branchNode) get(key []byte) ([]byte, bool) { return b.nodes[b.place(key)].get(key) }

func (b *branchNode) changed(key []byte, now []pair) row {
	i := b.place(key)
	became := b.nodes[i].changed(key, now)
	return settledBranch(b.replaced(i, became).tidied(i-1, i+len(became.nodes)-1))
}

func (b *branchNode) joins(sep []byte, next node) bool {
	return cut.JoinBranches(b.seps, sep, next.(*branchNode).seps)
}

func (b *branchNode) joined(sep []byte, next node) node {
	other := next.(*branchNode)
	kids := row{
		nodes: slices.Concat(b.nodes, other.nodes),
		seps:  slices.Concat(b.seps, [][]byte{sep}, other.seps),
	}
	seam := len(b.nodes) - 1
	return &branchNode{row: kids.tidied(seam, seam)}
}

func (b *branchNode) tell(l []api.Node) []api.Node {
	l, kids := b.row.tell(l)
	seps := make([][]byte, len(b.seps))
	for i, s := range b.seps {
		seps[i] = bytes.Clone(s)
	}
	return append(l, api.Node{No: b.no, Level: b.level(), Seps: seps, Kids: kids})
}

func (b *branchNode) fresh() int {
	if b.no != 0 {
		return 0
	}
	return 1 + b.row.fresh()
}

func (b *branchNode) numbered(next func() int) node {
	if b.no != 0 {
		return b
	}
	kids := b.row.numbered(next)
	return &branchNode{no: next(), row: kids}
}

func (b *branchNode) gather(n numbers) {
	n.add(b.no)
	b.row.gather(n)
}
