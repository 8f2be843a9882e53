package tree_test

import (
	"bytes"
	"fmt"
	"slices"
	"sort"
	"strings"
	"testing"

	"coppice/api"
	"coppice/tree"
)

// noise answers one number behind the other, always the same ones.
func noise(seed uint64) func(n int) int {
	return func(n int) int {
		seed = seed*6364136223846793005 + 1442695040888963407
		return int((seed >> 33) % uint64(n))
	}
}

// plainV tells how many bytes a number's least form has: one for each seven bits.
func plainV(x int) int {
	n := 1
	for ; x >= 128; x /= 128 {
		n++
	}
	return n
}

// plainPrefix tells how many bytes all strings begin with, the first one shortened till it begins all.
func plainPrefix(l []string) int {
	if len(l) == 0 {
		return 0
	}
	head := l[0]
	for _, s := range l {
		for !strings.HasPrefix(s, head) {
			head = head[:len(head)-1]
		}
	}
	return len(head)
}

// plainPair is a pair with the numbers of its chain.
type plainPair struct {
	key, value string
	chain      []int
}

// plainPages tells how many pages a value's chain has.
func plainPages(value string) int {
	n := 0
	if len(value) > 512 {
		for left := len(value); left > 0; left -= 4085 {
			n++
		}
	}
	return n
}

// plainLeafSize adds up P4.1's numbers.
func plainLeafSize(pairs []plainPair) int {
	var keys []string
	for _, p := range pairs {
		keys = append(keys, p.key)
	}
	common := plainPrefix(keys)
	n := 3 + plainV(common) + common
	for _, p := range pairs {
		rest, size := len(p.key)-common, len(p.value)
		n += 2 + plainV(rest) + rest
		if size > 512 {
			n += plainV(2*size+1) + 4
		} else {
			n += plainV(2*size) + size
		}
	}
	return n
}

// plainBranchSize adds up P5.1's numbers.
func plainBranchSize(seps []string) int {
	p := plainPrefix(seps)
	n := 12 + plainV(p) + p
	for _, s := range seps {
		n += 10 + plainV(len(s)-p) + len(s) - p
	}
	return n
}

// plainBest goes through all places from 1 to last, and keeps the first one whose greater part is least.
func plainBest(last int, parts func(i int) (int, int)) int {
	best, least := 0, 0
	for i := 1; i <= last; i++ {
		a, b := parts(i)
		if greater := max(a, b); greater <= 4092 && (best == 0 || greater < least) {
			best, least = i, greater
		}
	}
	return best
}

// plainNode is a leaf, or a branch if it has kids.
type plainNode struct {
	no    int
	pairs []plainPair
	kids  []*plainNode
	seps  []string
}

// level goes down to a leaf.
func (n *plainNode) level() int {
	if len(n.kids) == 0 {
		return 0
	}
	return 1 + n.kids[0].level()
}

// plainTree is a tree, changed step by step as the chapter's words say it; it counts what happens on the way.
type plainTree struct {
	root *plainNode // nil: empty
	seen map[string]int
}

// canJoin asks DOC.md's words of two neighbours.
func canJoin(a *plainNode, sep string, b *plainNode) bool {
	if a.level() == 0 {
		return plainLeafSize(slices.Concat(a.pairs, b.pairs)) <= 3000
	}
	return plainBranchSize(slices.Concat(a.seps, []string{sep}, b.seps)) <= 3000
}

// join is P10.7.
func (t *plainTree) join(a *plainNode, sep string, b *plainNode) *plainNode {
	if a.level() == 0 {
		t.seen["leaves joined"]++
		return &plainNode{pairs: slices.Concat(a.pairs, b.pairs)}
	}
	t.seen["branches joined"]++
	last, first := a.kids[len(a.kids)-1], b.kids[0]
	if !canJoin(last, sep, first) {
		return &plainNode{kids: slices.Concat(a.kids, b.kids), seps: slices.Concat(a.seps, []string{sep}, b.seps)}
	}
	t.seen[fmt.Sprintf("joined at a seam, level %d", last.level())]++
	one := t.join(last, sep, first)
	return &plainNode{
		kids: slices.Concat(a.kids[:len(a.kids)-1], []*plainNode{one}, b.kids[1:]),
		seps: slices.Concat(a.seps, b.seps),
	}
}

// plainSep is keys.Separator: what b has in common with a, and one byte more.
func plainSep(a, b string) string { return b[:plainPrefix([]string{a, b})+1] }

// settle is what a changed node becomes: none, one, or two with a separator.
func (t *plainTree) settle(n *plainNode) ([]*plainNode, []string) {
	if len(n.pairs) == 0 && len(n.kids) == 0 {
		return nil, nil
	}
	if len(n.kids) == 0 {
		if plainLeafSize(n.pairs) <= 4092 {
			return []*plainNode{n}, nil
		}
		t.seen["a leaf cut"]++
		i := plainBest(len(n.pairs)-1, func(i int) (int, int) { return plainLeafSize(n.pairs[:i]), plainLeafSize(n.pairs[i:]) })
		a, b := &plainNode{pairs: n.pairs[:i]}, &plainNode{pairs: n.pairs[i:]}
		return []*plainNode{a, b}, []string{plainSep(n.pairs[i-1].key, n.pairs[i].key)}
	}
	if plainBranchSize(n.seps) <= 4092 {
		if len(n.kids) == 1 {
			t.seen["a branch of one kid"]++
		}
		return []*plainNode{n}, nil
	}
	t.seen["a branch cut"]++
	i := plainBest(len(n.kids)-1, func(i int) (int, int) { return plainBranchSize(n.seps[:i-1]), plainBranchSize(n.seps[i:]) })
	a, b := &plainNode{kids: n.kids[:i], seps: n.seps[:i-1]}, &plainNode{kids: n.kids[i:], seps: n.seps[i:]}
	return []*plainNode{a, b}, []string{n.seps[i-1]}
}

// change is P10.4 to P10.6 from a node on: now is the key's pair, or nothing.
func (t *plainTree) change(n *plainNode, key string, now []plainPair) ([]*plainNode, []string) {
	if len(n.kids) == 0 {
		pairs := slices.DeleteFunc(slices.Clone(n.pairs), func(p plainPair) bool { return p.key == key })
		pairs = append(pairs, now...)
		sort.Slice(pairs, func(i, k int) bool { return pairs[i].key < pairs[k].key })
		return t.settle(&plainNode{pairs: pairs})
	}
	at := 0
	for _, s := range n.seps {
		if s <= key {
			at++
		}
	}
	became, between := t.change(n.kids[at], key, now)
	kids := slices.Concat(n.kids[:at], became, n.kids[at+1:])
	seps := slices.Concat(n.seps[:at], between, n.seps[at:])
	if len(became) == 0 {
		t.seen[fmt.Sprintf("none of level %d, first %v", n.level()-1, at == 0)]++
		if at > 0 {
			seps = slices.Concat(n.seps[:at-1], n.seps[at:])
		} else if len(seps) > 0 {
			seps = n.seps[1:]
		}
	}
	return t.settle(t.joinAll(&plainNode{kids: kids, seps: seps}, len(became)))
}

// joinAll joins the leftmost two kids that can be joined, as long as there are such.
func (t *plainTree) joinAll(n *plainNode, became int) *plainNode {
	for joins := 0; ; joins++ {
		i := 0
		for i < len(n.seps) && !canJoin(n.kids[i], n.seps[i], n.kids[i+1]) {
			i++
		}
		if i == len(n.seps) {
			if joins > 0 && became == 2 {
				t.seen["cut and joined"]++
			}
			if joins > 1 {
				t.seen["joined twice"]++
			}
			return n
		}
		one := t.join(n.kids[i], n.seps[i], n.kids[i+1])
		n = &plainNode{
			kids: slices.Concat(n.kids[:i], []*plainNode{one}, n.kids[i+2:]),
			seps: slices.Concat(n.seps[:i], n.seps[i+1:]),
		}
	}
}

// get goes through all pairs.
func (t *plainTree) get(key string) (string, bool) {
	for _, n := range t.postOrder() {
		for _, p := range n.pairs {
			if p.key == key {
				return p.value, true
			}
		}
	}
	return "", false
}

// pairs are all pairs, from the first leaf to the last one.
func (t *plainTree) pairs() []plainPair {
	var l []plainPair
	for _, n := range t.postOrder() {
		l = append(l, n.pairs...)
	}
	return l
}

// postOrder are all nodes, a branch behind all that lies below it.
func (t *plainTree) postOrder() []*plainNode {
	var l []*plainNode
	var down func(n *plainNode)
	down = func(n *plainNode) {
		for _, kid := range n.kids {
			down(kid)
		}
		l = append(l, n)
	}
	if t.root != nil {
		down(t.root)
	}
	return l
}

// changeRoot is the top of P10.6.
func (t *plainTree) changeRoot(key string, now []plainPair) {
	root := t.root
	if root == nil {
		root = &plainNode{}
	}
	l, seps := t.change(root, key, now)
	switch len(l) {
	case 0:
		t.root = nil
	case 1:
		t.root = l[0]
	case 2:
		t.seen["a new root"]++
		t.root = &plainNode{kids: l, seps: seps}
	}
	for t.root != nil && len(t.root.kids) == 1 {
		t.root = t.root.kids[0]
		t.seen["a kid is the root"]++
		if t.root.no != 0 {
			t.seen["an old kid is the root"]++
		}
	}
}

// with lays a pair in; one that is there with the same value stays.
func (t *plainTree) with(key, value string) {
	if old, has := t.get(key); !has || old != value {
		t.changeRoot(key, []plainPair{{key: key, value: value}})
	}
}

// without takes a key out; it tells whether it was there.
func (t *plainTree) without(key string) bool {
	_, has := t.get(key)
	if has {
		t.changeRoot(key, nil)
	}
	return has
}

// freshPages tells how many pages have no number.
func (t *plainTree) freshPages() int {
	n := 0
	for _, node := range t.postOrder() {
		if node.no == 0 {
			n++
		}
		for _, p := range node.pairs {
			if len(p.chain) == 0 {
				n += plainPages(p.value)
			}
		}
	}
	return n
}

// number is the same tree, what is new in it numbered in the order of P10.10.
func (t *plainTree) number(nos []int) {
	take := func() int {
		no := nos[0]
		nos = nos[1:]
		return no
	}
	var down func(n *plainNode) *plainNode
	down = func(n *plainNode) *plainNode {
		m := &plainNode{no: n.no, seps: n.seps}
		for _, kid := range n.kids {
			m.kids = append(m.kids, down(kid))
		}
		for _, p := range n.pairs {
			if len(p.chain) == 0 {
				for range plainPages(p.value) {
					p.chain = append(p.chain, take())
				}
			}
			m.pairs = append(m.pairs, p)
		}
		if m.no == 0 {
			m.no = take()
		}
		return m
	}
	if t.root != nil {
		t.root = down(t.root)
	}
}

// nodes is the list that Nodes should answer.
func (t *plainTree) nodes() []api.Node {
	var l []api.Node
	at := map[*plainNode]int{}
	for i, n := range t.postOrder() {
		at[n] = i
		told := api.Node{No: n.no, Level: n.level()}
		for _, p := range n.pairs {
			told.Pairs = append(told.Pairs, api.Pair{Key: []byte(p.key), Value: []byte(p.value)})
			told.Chains = append(told.Chains, p.chain)
		}
		for _, kid := range n.kids {
			told.Kids = append(told.Kids, at[kid])
		}
		for _, s := range n.seps {
			told.Seps = append(told.Seps, []byte(s))
		}
		l = append(l, told)
	}
	return l
}

// plainFrom is the plain tree of a list of nodes, which is one's.
func plainFrom(l []api.Node, seen map[string]int) *plainTree {
	t := &plainTree{seen: seen}
	made := make([]*plainNode, len(l))
	for i, n := range l {
		made[i] = &plainNode{no: n.No}
		for k, p := range n.Pairs {
			made[i].pairs = append(made[i].pairs, plainPair{key: string(p.Key), value: string(p.Value), chain: n.Chains[k]})
		}
		for _, kid := range n.Kids {
			made[i].kids = append(made[i].kids, made[kid])
		}
		for _, s := range n.Seps {
			made[i].seps = append(made[i].seps, string(s))
		}
		t.root = made[i]
	}
	return t
}

// plainNumbers are all numbers in a list of nodes, rising.
func plainNumbers(l []api.Node) []int {
	var nos []int
	for _, n := range l {
		if n.No != 0 {
			nos = append(nos, n.No)
		}
		for _, c := range n.Chains {
			nos = append(nos, c...)
		}
	}
	sort.Ints(nos)
	return nos
}

// equalNode tells whether two nodes are the same; nil and the empty list are.
func equalNode(a, b api.Node) bool {
	pairs := slices.EqualFunc(a.Pairs, b.Pairs, func(p, q api.Pair) bool {
		return bytes.Equal(p.Key, q.Key) && bytes.Equal(p.Value, q.Value)
	})
	return a.No == b.No && a.Level == b.Level && pairs &&
		slices.EqualFunc(a.Chains, b.Chains, slices.Equal[[]int]) &&
		slices.EqualFunc(a.Seps, b.Seps, bytes.Equal) && slices.Equal(a.Kids, b.Kids)
}

// wantNodes asks that a tree tells just these nodes.
func wantNodes(t *testing.T, name string, x *tree.Tree, want []api.Node) {
	t.Helper()
	got := x.Nodes()
	if !slices.EqualFunc(got, want, equalNode) {
		t.Fatalf("%s: the nodes are\n%snot\n%s", name, tell(got), tell(want))
	}
}

// tell is a list of nodes in few words.
func tell(l []api.Node) string {
	var b strings.Builder
	for i, n := range l {
		if i == 40 {
			fmt.Fprintf(&b, "  and so on, %d in all\n", len(l))
			break
		}
		fmt.Fprintf(&b, "  %d: no %d level %d kids %v seps %.12q pairs", i, n.No, n.Level, n.Kids, n.Seps)
		for k, p := range n.Pairs {
			fmt.Fprintf(&b, " %.12q(%d)=%d", p.Key, len(p.Key), len(p.Value))
			if k < len(n.Chains) && len(n.Chains[k]) > 0 {
				fmt.Fprintf(&b, "%v", n.Chains[k])
			}
		}
		b.WriteString("\n")
	}
	return b.String()
}
