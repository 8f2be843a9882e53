package tree

import (
	"bytes"
	"slices"
	"sort"

	"coppice/api"
	"coppice/chain"
	"coppice/cut"
	"coppice/keys"
	"coppice/leaf"
)

// pair is a key with its value, and the pages of its chain; none, if it has no chain, or a new one.
type pair struct {
	key, value []byte
	chain      []int
}

// fresh is how many pages of the pair's chain have no number yet.
func (p pair) fresh() int {
	if len(p.chain) > 0 {
		return 0
	}
	return chain.Pages(len(p.value))
}

// sameValue tells whether two pairs of one key say the same.
func sameValue(a, b pair) bool { return bytes.Equal(a.value, b.value) }

// itemsOf are pairs as cut and leaf weigh them: by their keys, and how long their values are.
func itemsOf(pairs []pair) []api.Item {
	items := make([]api.Item, len(pairs))
	for i, p := range pairs {
		items[i] = api.Item{Key: p.key, Size: len(p.value)}
	}
	return items
}

// leafNode is a leaf.
type leafNode struct {
	no    int
	pairs []pair // by rising keys
}

// settledLeaf is what a leaf becomes that has these pairs now: none, one or two.
func settledLeaf(pairs []pair) row {
	items := itemsOf(pairs)
	switch {
	case len(pairs) == 0:
		return row{}
	case cut.Fits(leaf.Size(items)):
		return alone(&leafNode{pairs: pairs})
	}
	i := cut.Leaf(items)
	sep, _ := keys.Separator(pairs[i-1].key, pairs[i].key)
	return both(&leafNode{pairs: pairs[:i]}, sep, &leafNode{pairs: pairs[i:]})
}

// find tells where a key's pair stands, or would stand, and whether it is there.
func (l *leafNode) find(key []byte) (int, bool) {
	return sort.Find(len(l.pairs), func(i int) int { return keys.Compare(key, l.pairs[i].key) })
}

func (l *leafNode) number() int { return l.no }

func (l *leafNode) level() int { return 0 }

func (l *leafNode) count() int { return len(l.pairs) }

func (l *leafNode) get(key []byte) ([]byte, bool) {
	at, has := l.find(key)
	if !has {
		return nil, false
	}
	return l.pairs[at].value, true
}

func (l *leafNode) changed(key []byte, now []pair) row {
	from, has := l.find(key)
	to := from
	if has {
		to++
	}
	if slices.EqualFunc(l.pairs[from:to], now, sameValue) {
		panic(nothingChanges{})
	}
	return settledLeaf(slices.Concat(l.pairs[:from], now, l.pairs[to:]))
}

func (l *leafNode) joins(sep []byte, next node) bool {
	return cut.JoinLeaves(itemsOf(l.pairs), itemsOf(next.(*leafNode).pairs))
}

func (l *leafNode) joined(sep []byte, next node) node {
	return &leafNode{pairs: slices.Concat(l.pairs, next.(*leafNode).pairs)}
}

func (l *leafNode) tell(to []api.Node) []api.Node {
	n := api.Node{No: l.no, Pairs: make([]api.Pair, len(l.pairs)), Chains: make([][]int, len(l.pairs))}
	for i, p := range l.pairs {
		n.Pairs[i] = api.Pair{Key: bytes.Clone(p.key), Value: bytes.Clone(p.value)}
		n.Chains[i] = slices.Clone(p.chain)
	}
	return append(to, n)
}

func (l *leafNode) fresh() int {
	if l.no != 0 {
		return 0
	}
	n := 1
	for _, p := range l.pairs {
		n += p.fresh()
	}
	return n
}

func (l *leafNode) numbered(next func() int) node {
	if l.no != 0 {
		return l
	}
	pairs := slices.Clone(l.pairs)
	for i, p := range pairs {
		for range p.fresh() {
			pairs[i].chain = append(pairs[i].chain, next())
		}
	}
	return &leafNode{no: next(), pairs: pairs}
}

func (l *leafNode) gather(n numbers) {
	n.add(l.no)
	for _, p := range l.pairs {
		n.add(p.chain...)
	}
}
