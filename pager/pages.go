package pager

import (
	"iter"

	"coppice/api"
	"coppice/chain"
	"coppice/disk"
	"coppice/page"
)

// pages are pages with their numbers, in the order in which they are written; one of no kind is zeros.
type pages = iter.Seq2[int, api.Page]

// lay writes pages, up to the first error, and makes them last.
func lay(d *disk.Disk, l pages) api.Errno {
	for no, p := range l {
		b, err := encode(p)
		if err == api.OK {
			err = d.Write(no, b)
		}
		if err != api.OK {
			return err
		}
	}
	return d.Sync()
}

// encode is a page's bytes.
func encode(p api.Page) ([]byte, api.Errno) {
	if p.Kind == 0 {
		return make([]byte, api.PageSize), api.OK
	}
	return page.Encode(p)
}

// join is one sequence behind the other.
func join(all ...pages) pages {
	return func(yield func(int, api.Page) bool) {
		for _, l := range all {
			for no, p := range l {
				if !yield(no, p) {
					return
				}
			}
		}
	}
}

// single is one page.
func single(no int, p api.Page) pages {
	return func(yield func(int, api.Page) bool) { yield(no, p) }
}

// blank is a page of zeros.
func blank(no int) pages { return single(no, api.Page{}) }

// slotOf is the slot of a head.
func slotOf(h api.Head) int { return h.Version % 2 }

// headPage is a head in its slot.
func headPage(h api.Head) pages { return single(slotOf(h), api.Page{Kind: api.Meta, Head: h}) }

// treePages are the new ones of a tree's pages: each chain ahead of its leaf, each kid ahead of its branch.
func treePages(nodes []api.Node, fresh set) pages {
	var all []pages
	keys := keysBelow(nodes)
	for _, n := range nodes {
		switch {
		case !fresh.has(n.No):
		case n.Level == 0:
			all = append(all, leafPages(n, fresh))
		default:
			all = append(all, single(n.No, branchPage(n, nodes, keys)))
		}
	}
	return join(all...)
}

// keysBelow tells of each node how many keys lie below it.
func keysBelow(nodes []api.Node) []int {
	keys := make([]int, len(nodes))
	for i, n := range nodes {
		keys[i] = len(n.Pairs)
		for _, kid := range n.Kids {
			keys[i] += keys[kid]
		}
	}
	return keys
}

// branchPage is a branch's page.
func branchPage(n api.Node, nodes []api.Node, keys []int) api.Page {
	p := api.Page{Kind: api.Branch, Level: n.Level, Seps: n.Seps}
	for _, kid := range n.Kids {
		p.Kids = append(p.Kids, api.Kid{No: nodes[kid].No, Keys: keys[kid]})
	}
	return p
}

// leafPages are the pages of a leaf's new chains, and the leaf's own behind them.
func leafPages(n api.Node, fresh set) pages {
	var all []pages
	own := api.Page{Kind: api.Leaf}
	for i, pair := range n.Pairs {
		it := api.Item{Key: pair.Key, Value: pair.Value, Size: len(pair.Value)}
		if nos := n.Chains[i]; len(nos) > 0 {
			it.Value, it.First = nil, nos[0]
			if fresh.has(nos[0]) { // a chain is new as a whole, or not at all
				all = append(all, chainPages(nos, pair.Value))
			}
		}
		own.Items = append(own.Items, it)
	}
	return join(append(all, single(n.No, own))...)
}

// chainPages are the pages of a chain.
func chainPages(nos []int, value []byte) pages {
	return func(yield func(int, api.Page) bool) {
		for i, piece := range chain.Pieces(value) {
			if !yield(nos[i], api.Page{Kind: api.Chain, Next: behind(nos, i), Data: piece}) {
				return
			}
		}
	}
}

// listPages are the pages of frees: each is full, but the last.
func listPages(nos, free []int) pages {
	return func(yield func(int, api.Page) bool) {
		for i, no := range nos {
			from := min(len(free), i*api.FreesPer)
			piece := free[from:min(len(free), from+api.FreesPer)]
			if !yield(no, api.Page{Kind: api.Frees, Next: behind(nos, i), List: piece}) {
				return
			}
		}
	}
}

// behind is the number behind the i-th; 0, if that is the last.
func behind(nos []int, i int) int {
	if i+1 < len(nos) {
		return nos[i+1]
	}
	return 0
}
