package check

import (
	"slices"

	"coppice/api"
	"coppice/cut"
	"coppice/keys"
)

// spot is a place in the tree, at which a page is met.
type spot struct {
	from, no int    // the page that names it, its own number
	level    int    // of what must stand there
	least    int    // how many kids a branch must have there
	lo, hi   []byte // its bounds, an empty one being none
}

// limb is a page of the tree with all that lies below it.
type limb struct {
	page  api.Page
	keys  int
	place int // where its node stands
}

// walk judges what stands at a spot, and all that lies below it.
type walk func(s spot) (limb, fault)

// walkTree goes through the tree.
func (t *trial) walkTree() fault {
	if t.head.Root == 0 {
		return fault{}
	}
	top, bad := t.walker()(spot{from: t.slot, no: t.head.Root, level: t.head.Height - 1, least: 2})
	t.keys = top.keys
	return bad
}

// walker makes the walk: below a branch it is taken again, over the same map of what was met, so it ends on any bytes.
func (t *trial) walker() walk {
	var down walk
	down = func(s spot) (limb, fault) {
		p, bad := t.meet(s.from, s.no)
		switch {
		case bad.found():
			return limb{}, bad
		case p.Kind != kindOf(s.level) || p.Level != s.level:
			return limb{}, fault{s.no, api.ErrDepth}
		case s.level == 0:
			return t.leaf(s, p)
		}
		return t.branch(s, p, down)
	}
	return down
}

// kindOf is the kind of the pages of a level.
func kindOf(level int) int {
	if level == 0 {
		return api.Leaf
	}
	return api.Branch
}

// leaf judges a leaf, and the chains of its values.
func (t *trial) leaf(s spot, p api.Page) (limb, fault) {
	n := len(p.Items)
	if !keys.Within(p.Items[0].Key, s.lo, s.hi) || !keys.Within(p.Items[n-1].Key, s.lo, s.hi) {
		return limb{}, fault{s.no, api.ErrBounds}
	}
	node := api.Node{No: s.no}
	for _, it := range p.Items {
		value, chain, bad := t.value(s.no, it)
		if bad.found() {
			return limb{}, bad
		}
		node.Pairs = append(node.Pairs, api.Pair{Key: it.Key, Value: value})
		node.Chains = append(node.Chains, chain)
	}
	return limb{page: p, keys: n, place: t.tell(node)}, fault{}
}

// value is an item's value, with the numbers of the pages of its chain.
func (t *trial) value(from int, it api.Item) (value []byte, chain []int, bad fault) {
	value = it.Value
	bad = t.follow(from, it.First, func(no int, p api.Page) api.Errno {
		left := it.Size - len(value)
		if p.Kind != api.Chain || len(p.Data) != min(left, api.ChainData) || (p.Next == 0) != (left <= api.ChainData) {
			return api.ErrLost
		}
		value, chain = append(value, p.Data...), append(chain, no)
		return api.OK
	})
	return value, chain, bad
}

// branch judges a branch, and by the walk its kids.
func (t *trial) branch(s spot, p api.Page, down walk) (limb, fault) {
	n := len(p.Seps)
	if n > 0 && (!s.between(p.Seps[0]) || !s.between(p.Seps[n-1])) {
		return limb{}, fault{s.no, api.ErrBounds}
	}
	node := api.Node{No: s.no, Level: s.level, Seps: p.Seps}
	bounds := slices.Concat([][]byte{s.lo}, p.Seps, [][]byte{s.hi})
	var kids []limb
	sum := 0
	for i, k := range p.Kids {
		kid, bad := down(spot{from: s.no, no: k.No, level: s.level - 1, lo: bounds[i], hi: bounds[i+1]})
		switch {
		case bad.found():
			return limb{}, bad
		case kid.keys != k.Keys:
			return limb{}, fault{s.no, api.ErrKeys}
		}
		kids, sum = append(kids, kid), sum+kid.keys
		node.Kids = append(node.Kids, kid.place)
	}
	if len(kids) < s.least || thin(kids, p.Seps) {
		return limb{}, fault{s.no, api.ErrThin}
	}
	return limb{page: p, keys: sum, place: t.tell(node)}, fault{}
}

// between tells whether a separator stands behind the lower bound and ahead of the upper one.
func (s spot) between(sep []byte) bool {
	return keys.Within(sep, s.lo, s.hi) && keys.Compare(sep, s.lo) > 0
}

// thin tells whether two neighbours can be joined.
func thin(kids []limb, seps [][]byte) bool {
	for i, sep := range seps {
		a, b := kids[i].page, kids[i+1].page
		if a.Kind == api.Leaf && cut.JoinLeaves(a.Items, b.Items) || a.Kind == api.Branch && cut.JoinBranches(a.Seps, sep, b.Seps) {
			return true
		}
	}
	return false
}
