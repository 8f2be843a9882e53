package bulk

import (
	"sort"

	"coppice/api"
	"coppice/branch"
	"coppice/cut"
	"coppice/keys"
	"coppice/leaf"
)

// judge tells the first fault of pairs that are to be a tree.
func judge(l []api.Pair) api.Errno {
	var ahead []byte // every key stands behind the empty string
	for _, p := range l {
		if !keys.Valid(p.Key) || len(p.Value) > api.MaxValue {
			return api.ErrSize
		}
		if keys.Compare(ahead, p.Key) >= 0 {
			return api.ErrOrder
		}
		ahead = p.Key
	}
	return api.OK
}

// part is a node of the tree that is being made, with all that lies below it.
type part struct {
	level       int        // 0: a leaf
	pairs       []api.Pair // of a leaf
	seps        [][]byte   // of a branch
	kids        []part
	first, last []byte // the keys at its ends
}

// leafOf is the leaf of these pairs.
func leafOf(l []api.Pair) part {
	return part{pairs: l, first: l[0].Key, last: l[len(l)-1].Key}
}

// branchOf is the branch above these kids.
func branchOf(kids []part, seps [][]byte) part {
	left, right := kids[0], kids[len(kids)-1]
	return part{level: left.level + 1, seps: seps, kids: kids, first: left.first, last: right.last}
}

// leaves are pairs, one at least, from the left to the right in leaves that take as many as fit.
func leaves(l []api.Pair) []part {
	items := itemsOf(l)
	var row []part
	for at := 0; at < len(l); {
		end := at + fitting(items[at:], leaf.Size)
		row = append(row, leafOf(l[at:end]))
		at = end
	}
	return row
}

// itemsOf are pairs as leaf weighs them: by their keys, and how long their values are.
func itemsOf(l []api.Pair) []api.Item {
	items := make([]api.Item, len(l))
	for i, p := range l {
		items[i] = api.Item{Key: p.Key, Size: len(p.Value)}
	}
	return items
}

// grown is the node above all of a row, one node at least, with as many levels between as it takes: in each of them, from the left to the right, branches that take as many kids as fit.
func grown(row []part) part {
levels:
	for len(row) > 1 {
		seps := separators(row)
		var above []part
		for at := 0; ; {
			n := fitting(seps[at:], branch.Size)
			end := at + n + 1 // a branch has one kid more than separators
			above = append(above, branchOf(row[at:end], seps[at:at+n]))
			if end == len(row) {
				row = above
				continue levels
			}
			at = end
		}
	}
	return row[0]
}

// separators are those between each two neighbours of a row. They hang on the keys at both sides alone, so one that comes to stand between two branches is found again on the level above.
func separators(row []part) [][]byte {
	var seps [][]byte
	for i, p := range row[1:] {
		sep, _ := keys.Separator(row[i].last, p.first)
		seps = append(seps, sep)
	}
	return seps
}

// fitting tells how many of a list, from its beginning on, fit into one page.
func fitting[T any](list []T, size func(first []T) int) int {
	// More is greater, so what fits ends at one place. It is sought no farther than twice as far as it lies: a list may be as long as all pages together.
	reach := 1
	for reach < len(list) && cut.Fits(size(list[:reach])) {
		reach *= 2
	}
	return sort.Search(min(reach, len(list)), func(n int) bool { return !cut.Fits(size(list[:n+1])) })
}

// tell lays a node behind a list, and ahead of it all that lies below.
func (p part) tell(l []api.Node) []api.Node {
	if p.level == 0 {
		return append(l, api.Node{Pairs: p.pairs})
	}
	n := api.Node{Level: p.level, Seps: p.seps}
	for _, kid := range p.kids {
		l = kid.tell(l)
		n.Kids = append(n.Kids, len(l)-1)
	}
	return append(l, n)
}
