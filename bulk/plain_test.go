package bulk_test

import (
	"bytes"
	"fmt"
	"slices"
	"strings"
	"testing"

	"coppice/api"
	"coppice/bulk"
	"coppice/page"
	"coppice/tree"
)

// noise tells numbers from 0 on, below the one it is given; the same ones for the same seed.
func noise(seed uint64) func(n int) int {
	return func(n int) int {
		seed = seed*6364136223846793005 + 1442695040888963407
		return int((seed >> 33) % uint64(n))
	}
}

// plainV tells how many bytes a number's least form has: one for each seven bits.
func plainV(x int) int {
	n := 1
	for ; x >= 128; x /= 128 {
		n++
	}
	return n
}

// plainCommon tells how many bytes all strings begin with: the first one is shortened till it begins all.
func plainCommon(l []string) int {
	if len(l) == 0 {
		return 0
	}
	head := l[0]
	for _, s := range l {
		for !strings.HasPrefix(s, head) {
			head = head[:len(head)-1]
		}
	}
	return len(head)
}

// plainLeafSize adds up P4.1's numbers.
func plainLeafSize(pairs []api.Pair) int {
	var names []string
	for _, p := range pairs {
		names = append(names, string(p.Key))
	}
	common := plainCommon(names)
	n := 3 + plainV(common) + common
	for _, p := range pairs {
		rest, size := len(p.Key)-common, len(p.Value)
		n += 2 + plainV(rest) + rest
		if size > 512 {
			n += plainV(2*size+1) + 4
		} else {
			n += plainV(2*size) + size
		}
	}
	return n
}

// plainBranchSize adds up P5.1's numbers.
func plainBranchSize(seps []string) int {
	p := plainCommon(seps)
	n := 12 + plainV(p) + p
	for _, s := range seps {
		n += 10 + plainV(len(s)-p) + len(s) - p
	}
	return n
}

// plainPages tells how many pages a value's chain has.
func plainPages(value []byte) int {
	n := 0
	if len(value) > 512 {
		for left := len(value); left > 0; left -= 4085 {
			n++
		}
	}
	return n
}

// plainSep lengthens a beginning of b till it stands behind a.
func plainSep(a, b string) string {
	n := 0
	for b[:n] <= a {
		n++
	}
	return b[:n]
}

// plainError judges pairs one by one.
func plainError(l []api.Pair) api.Errno {
	for i, p := range l {
		if len(p.Key) == 0 || len(p.Key) > 255 || len(p.Value) > 262144 {
			return api.ErrSize
		}
		if i > 0 && string(p.Key) <= string(l[i-1].Key) {
			return api.ErrOrder
		}
	}
	return api.OK
}

// plainNode is a leaf, or a branch if it has kids.
type plainNode struct {
	pairs []api.Pair
	kids  []*plainNode
	seps  []string
}

// ends are the first and the last key at it or below it.
func (n *plainNode) ends() (string, string) {
	if len(n.kids) == 0 {
		return string(n.pairs[0].Key), string(n.pairs[len(n.pairs)-1].Key)
	}
	first, _ := n.kids[0].ends()
	_, last := n.kids[len(n.kids)-1].ends()
	return first, last
}

// sepOf is the separator of two neighbours.
func sepOf(a, b *plainNode) string {
	_, last := a.ends()
	first, _ := b.ends()
	return plainSep(last, first)
}

// plainLeaves lays pair behind pair, and weighs the whole leaf each time.
func plainLeaves(l []api.Pair) []*plainNode {
	var row []*plainNode
	for _, p := range l {
		if len(row) > 0 {
			last := row[len(row)-1]
			if more := append(slices.Clip(last.pairs), p); plainLeafSize(more) <= 4092 {
				last.pairs = more
				continue
			}
		}
		row = append(row, &plainNode{pairs: []api.Pair{p}})
	}
	return row
}

// plainAbove is the level above a row.
func plainAbove(row []*plainNode) []*plainNode {
	var above []*plainNode
	for i, kid := range row {
		if i > 0 {
			last := above[len(above)-1]
			if seps := append(slices.Clip(last.seps), sepOf(row[i-1], kid)); plainBranchSize(seps) <= 4092 {
				last.seps, last.kids = seps, append(last.kids, kid)
				continue
			}
		}
		above = append(above, &plainNode{kids: []*plainNode{kid}})
	}
	return above
}

// tell is the list of the nodes at it and below it.
func (n *plainNode) tell(l []api.Node) []api.Node {
	told := api.Node{Pairs: n.pairs}
	for _, kid := range n.kids {
		l = kid.tell(l)
		told.Kids = append(told.Kids, len(l)-1)
		told.Level = l[len(l)-1].Level + 1
	}
	for _, s := range n.seps {
		told.Seps = append(told.Seps, []byte(s))
	}
	return append(l, told)
}

// plainNodes are the nodes of the tree that P21.1's words make of pairs whose keys rise.
func plainNodes(l []api.Pair) []api.Node {
	row := plainLeaves(l)
	for len(row) > 1 {
		row = plainAbove(row)
	}
	var nodes []api.Node
	for _, root := range row {
		nodes = root.tell(nodes)
	}
	return nodes
}

// numberedNodes are nodes with numbers from 2 on: chains ahead of their leaf, kids ahead of their branch; and the number behind the last one.
func numberedNodes(l []api.Node) ([]api.Node, int) {
	no := 2
	l = slices.Clone(l)
	for i, n := range l {
		l[i].Chains = make([][]int, len(n.Pairs))
		for k, p := range n.Pairs {
			for range plainPages(p.Value) {
				l[i].Chains[k] = append(l[i].Chains[k], no)
				no++
			}
		}
		l[i].No = no
		no++
	}
	return l, no
}

// encoded is the page of a value.
func encoded(t *testing.T, p api.Page) []byte {
	t.Helper()
	b, err := page.Encode(p)
	if err != api.OK {
		t.Fatalf("%+v may not be: %d", p, err)
	}
	return b
}

// headPage is the page of a head.
func headPage(t *testing.T, h api.Head) []byte {
	t.Helper()
	return encoded(t, api.Page{Kind: api.Meta, Head: h})
}

// emptyFile is what a Format leaves.
func emptyFile(t *testing.T) []byte {
	t.Helper()
	return append(make([]byte, 4096), headPage(t, api.Head{Version: 1, Count: 2})...)
}

// leafPages are the pages of a leaf with its chains.
func leafPages(t *testing.T, n api.Node) []byte {
	t.Helper()
	var file []byte
	own := api.Page{Kind: api.Leaf}
	for i, p := range n.Pairs {
		it := api.Item{Key: p.Key, Value: p.Value, Size: len(p.Value)}
		left := p.Value
		for k := range n.Chains[i] {
			it.Value, it.First = nil, n.Chains[i][0]
			piece := api.Page{Kind: api.Chain, Data: left[:min(len(left), 4085)]}
			left = left[len(piece.Data):]
			if k+1 < len(n.Chains[i]) {
				piece.Next = n.Chains[i][k+1]
			}
			file = append(file, encoded(t, piece)...)
		}
		own.Items = append(own.Items, it)
	}
	return append(file, encoded(t, own)...)
}

// laid are the pages of a tree of which these are the nodes, one behind the other, and the head that they need.
func laid(t *testing.T, l []api.Node) ([]byte, api.Head) {
	t.Helper()
	nodes, count := numberedNodes(l)
	root := nodes[len(nodes)-1]
	h := api.Head{Version: 2, Count: count, Root: root.No, Height: root.Level + 1}
	var pages []byte
	below := make([]int, len(nodes))
	for i, n := range nodes {
		below[i] = len(n.Pairs)
		h.Keys += len(n.Pairs)
		if n.Level == 0 {
			pages = append(pages, leafPages(t, n)...)
			continue
		}
		b := api.Page{Kind: api.Branch, Level: n.Level, Seps: n.Seps}
		for _, kid := range n.Kids {
			b.Kids = append(b.Kids, api.Kid{No: nodes[kid].No, Keys: below[kid]})
			below[i] += below[kid]
		}
		pages = append(pages, encoded(t, b)...)
	}
	return pages, h
}

// plainFile is the file of pairs whose keys rise, page by page.
func plainFile(t *testing.T, l []api.Pair) []byte {
	t.Helper()
	if len(l) == 0 {
		return emptyFile(t)
	}
	return fileOf(t, plainNodes(l))
}

// fileOf is the file of a tree of which these are the nodes.
func fileOf(t *testing.T, nodes []api.Node) []byte {
	t.Helper()
	pages, h := laid(t, nodes)
	return slices.Concat(headPage(t, h), headPage(t, api.Head{Version: 1, Count: 2}), pages)
}

// told is all that nodes say.
func told(l []api.Node) string {
	var text strings.Builder
	for _, n := range l {
		fmt.Fprintf(&text, "node %d %d %q %v\n", n.No, n.Level, n.Seps, n.Kids)
		for i, p := range n.Pairs {
			chain := []int{}
			if len(n.Chains) > 0 {
				chain = n.Chains[i]
			}
			fmt.Fprintf(&text, "  %q %d %v ", p.Key, len(p.Value), chain)
			text.Write(p.Value) // long values: as they stand
			text.WriteByte('\n')
		}
	}
	return text.String()
}

// shape is what nodes say in short.
func shape(l []api.Node) string {
	var text strings.Builder
	for i, n := range l {
		if i == 20 {
			fmt.Fprintf(&text, " .. (%d nodes)", len(l))
			break
		}
		fmt.Fprintf(&text, " [level %d, %d pairs, %d kids]", n.Level, len(n.Pairs), len(n.Kids))
	}
	return text.String()
}

// isBuilt asks whether Build makes the tree that the chapter's words make, and tells it.
func isBuilt(t *testing.T, what string, l []api.Pair) *tree.Tree {
	t.Helper()
	u, err := bulk.Build(l)
	if err != api.OK || u == nil {
		t.Fatalf("%s: Build is %d", what, err)
	}
	want := plainNodes(l)
	if got := u.Nodes(); told(got) != told(want) {
		t.Fatalf("%s: the nodes are%s, not%s", what, shape(got), shape(want))
	}
	height, fresh := 0, len(want)
	for _, n := range want {
		height = max(height, n.Level+1)
		for _, p := range n.Pairs {
			fresh += plainPages(p.Value)
		}
	}
	if u.Len() != len(l) || u.Height() != height || u.Fresh() != fresh || len(u.Numbers()) != 0 {
		t.Fatalf("%s: %d pairs, height %d, %d fresh, numbers %v", what, u.Len(), u.Height(), u.Fresh(), u.Numbers())
	}
	return u
}

// samePairs tells whether two lists have the same pairs.
func samePairs(a, b []api.Pair) bool {
	return slices.EqualFunc(a, b, func(x, y api.Pair) bool {
		return bytes.Equal(x.Key, y.Key) && bytes.Equal(x.Value, y.Value)
	})
}
