package tree

import (
	"slices"

	"coppice/api"
)

// node is a leaf or a branch. It never changes: what is done with it makes others, which share with it all that has stayed as it was.
type node interface {
	// number is the number of its page; 0: it is new.
	number() int
	// level is 0 of a leaf.
	level() int
	// count is how many pairs lie at it or below it.
	count() int
	// get finds a key's value.
	get(key []byte) ([]byte, bool)
	// changed is what it becomes, settled, with now, one pair or none, for what it has of the key. If that is the same, it gives up.
	changed(key []byte, now []pair) row
	// joins tells whether it can be joined with its next neighbour, sep between them. Neighbours have one level, so they are of one kind.
	joins(sep []byte, next node) bool
	// joined is both in one.
	joined(sep []byte, next node) node
	// tell lays it behind a list, and ahead of it all that lies below.
	tell(l []api.Node) []api.Node
	// fresh is how many pages have no number yet, of it and of what lies below.
	fresh() int
	// numbered is the same node with numbers for these pages, each from next.
	numbered(next func() int) node
	// gather lays all its numbers into n, and those of what lies below.
	gather(n numbers)
}

// row is neighbours, from the first to the last one, and between each two of them their separator.
type row struct {
	nodes []node
	seps  [][]byte
}

// alone is the row of one node.
func alone(n node) row { return row{nodes: []node{n}} }

// both is the row of two nodes.
func both(a node, sep []byte, b node) row {
	return row{nodes: []node{a, b}, seps: [][]byte{sep}}
}

// replaced is the row with what the node at i has become in its place.
func (r row) replaced(i int, became row) row {
	from, to := i, i
	if len(became.nodes) == 0 {
		// With a node goes the separator ahead of it; with the first one the one behind it, if there is one.
		from = max(i-1, 0)
		to = min(from+1, len(r.seps))
	}
	return row{
		nodes: slices.Concat(r.nodes[:i], became.nodes, r.nodes[i+1:]),
		seps:  slices.Concat(r.seps[:from], became.seps, r.seps[to:]),
	}
}

// tidied is the row with those joined that can be, the leftmost two first, of the node at from up to the one behind to.
// Others need not be asked: they could not be joined ahead of the change, and what has been joined is greater than it was.
func (r row) tidied(from, to int) row {
	for i := max(from, 0); i <= to && i+1 < len(r.nodes); {
		if r.nodes[i].joins(r.seps[i], r.nodes[i+1]) {
			r = r.joinedAt(i)
			to--
		} else {
			i++
		}
	}
	return r
}

// joinedAt is the row with the node at i and the one behind it joined to one.
func (r row) joinedAt(i int) row {
	one := r.nodes[i].joined(r.seps[i], r.nodes[i+1])
	return row{
		nodes: slices.Concat(r.nodes[:i], []node{one}, r.nodes[i+2:]),
		seps:  slices.Concat(r.seps[:i], r.seps[i+1:]),
	}
}

// rooted is what stands at the top of a tree whose root has become this row: one node, or none.
func (r row) rooted() row {
	if len(r.nodes) > 1 {
		return alone(&branchNode{row: r})
	}
	for len(r.nodes) == 1 {
		root, ok := r.nodes[0].(*branchNode)
		if !ok || len(root.nodes) > 1 {
			break
		}
		r = root.row
	}
	return r
}

// level is that of its nodes, which all have the same; -1, if it has none.
func (r row) level() int {
	if len(r.nodes) == 0 {
		return -1
	}
	return r.nodes[0].level()
}

// count is how many pairs its nodes have.
func (r row) count() int {
	n := 0
	for _, kid := range r.nodes {
		n += kid.count()
	}
	return n
}

// tell lays all its nodes, and what lies below them, behind a list, and tells where each one came to stand.
func (r row) tell(l []api.Node) ([]api.Node, []int) {
	places := make([]int, len(r.nodes))
	for i, kid := range r.nodes {
		l = kid.tell(l)
		places[i] = len(l) - 1
	}
	return l, places
}

// fresh is how many pages of its nodes have no number yet.
func (r row) fresh() int {
	n := 0
	for _, kid := range r.nodes {
		n += kid.fresh()
	}
	return n
}

// numbered is the same row with numbers for what is new.
func (r row) numbered(next func() int) row {
	nodes := make([]node, len(r.nodes))
	for i, kid := range r.nodes {
		nodes[i] = kid.numbered(next)
	}
	return row{nodes: nodes, seps: r.seps}
}

// gather lays all numbers of its nodes into n.
func (r row) gather(n numbers) {
	for _, kid := range r.nodes {
		kid.gather(n)
	}
}
