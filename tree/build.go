package tree

import (
	"bytes"
	"slices"

	"coppice/api"
	"coppice/branch"
	"coppice/chain"
	"coppice/cut"
	"coppice/keys"
	"coppice/leaf"
)

// Build is the tree of these nodes.
func Build(l []api.Node) (*Tree, api.Errno) {
	b := builder{used: numbers{}}
	for at, n := range l {
		if !b.add(at, n) {
			return nil, api.ErrTree
		}
	}
	switch {
	case len(l) == 0:
		return Empty(), api.OK
	case len(b.parts) > 1 || len(l[len(l)-1].Kids) == 1:
		return nil, api.ErrTree
	}
	return &Tree{top: alone(b.parts[0].node)}, api.OK
}

// part is a node of a list that is being built, with all that lies below it.
type part struct {
	node
	at          int    // where in the list it stands
	first, last []byte // the keys at its ends
}

// builder goes through a list from its beginning on.
type builder struct {
	parts []part  // those above which no branch has come yet
	used  numbers // all that have come
}

// add goes on by one node; false, if no sound tree has it there.
func (b *builder) add(at int, n api.Node) bool {
	if n.No != 0 && !b.used.take(n.No) {
		return false
	}
	if n.Level == 0 {
		return b.addLeaf(at, n)
	}
	return b.addBranch(at, n)
}

// addLeaf goes on by a leaf.
func (b *builder) addLeaf(at int, n api.Node) bool {
	if len(n.Pairs) == 0 || len(n.Seps) > 0 || len(n.Kids) > 0 {
		return false
	}
	pairs, ok := b.pairsOf(n)
	if !ok || !rising(pairs) || !cut.Fits(leaf.Size(itemsOf(pairs))) {
		return false
	}
	b.parts = append(b.parts, part{
		node: &leafNode{no: n.No, pairs: pairs}, at: at,
		first: pairs[0].key, last: pairs[len(pairs)-1].key,
	})
	return true
}

// pairsOf are the pairs of a leaf; false, if one of them may not be.
func (b *builder) pairsOf(n api.Node) ([]pair, bool) {
	if len(n.Chains) > 0 && len(n.Chains) != len(n.Pairs) {
		return nil, false
	}
	pairs := make([]pair, len(n.Pairs))
	for i, p := range n.Pairs {
		pairs[i] = pair{key: bytes.Clone(p.Key), value: bytes.Clone(p.Value)}
		if len(n.Chains) > 0 {
			pairs[i].chain = slices.Clone(n.Chains[i])
		}
		if !keys.Valid(p.Key) || len(p.Value) > api.MaxValue || !b.takeChain(pairs[i]) || n.No != 0 && pairs[i].fresh() > 0 {
			return nil, false
		}
	}
	return pairs, true
}

// takeChain takes the numbers of a pair's chain; false, if it may not have them.
func (b *builder) takeChain(p pair) bool {
	if len(p.chain) > 0 && len(p.chain) != chain.Pages(len(p.value)) {
		return false
	}
	for _, no := range p.chain {
		if !b.used.take(no) {
			return false
		}
	}
	return true
}

// rising tells whether each key is above the one ahead of it.
func rising(pairs []pair) bool {
	for i := 1; i < len(pairs); i++ {
		if keys.Compare(pairs[i-1].key, pairs[i].key) >= 0 {
			return false
		}
	}
	return true
}

// addBranch goes on by a branch: post-order, its kids are the last parts that have come.
func (b *builder) addBranch(at int, n api.Node) bool {
	k := len(n.Kids)
	if n.Level > api.MaxLevel || k > len(b.parts) || len(n.Seps) != k-1 || len(n.Pairs) > 0 || len(n.Chains) > 0 {
		return false
	}
	rest, kids := b.parts[:len(b.parts)-k], b.parts[len(b.parts)-k:]
	made := row{}
	for i, kid := range kids {
		if kid.at != n.Kids[i] || kid.level()+1 != n.Level || n.No != 0 && kid.number() == 0 {
			return false
		}
		made.nodes = append(made.nodes, kid.node)
	}
	for i, sep := range n.Seps {
		if !keys.Valid(sep) || !apart(kids[i], sep, kids[i+1]) {
			return false
		}
		made.seps = append(made.seps, bytes.Clone(sep))
	}
	if !cut.Fits(branch.Size(made.seps)) {
		return false
	}
	b.parts = append(rest, part{
		node: &branchNode{no: n.No, row: made}, at: at,
		first: kids[0].first, last: kids[k-1].last,
	})
	return true
}

// apart tells whether sep stands between two neighbours, and they can't be joined.
// So separators rise, too, and stand within those above them: between each two of them there are keys.
func apart(a part, sep []byte, b part) bool {
	return keys.Compare(a.last, sep) < 0 && keys.Compare(sep, b.first) <= 0 && !a.joins(sep, b.node)
}
