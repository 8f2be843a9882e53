package check_test

import (
	"bytes"
	"fmt"
	"slices"
	"strings"
	"testing"

	"coppice/api"
	"coppice/chain"
	"coppice/check"
	"coppice/page"
	"coppice/tree"
)

// scene is a file by its pages; one of no kind is zeros. Its head stands in slot 1, if it is not moved.
type scene struct {
	pages  []api.Page
	slot   int
	broken []int // pages in which one byte is turned
}

// newScene is the file of the empty map, of version 1.
func newScene() *scene {
	return &scene{pages: []api.Page{{}, {Kind: api.Meta, Head: api.Head{Version: 1, Count: 2}}}, slot: 1}
}

func (s *scene) head() *api.Head { return &s.pages[s.slot].Head }

// inSlot0 moves the head to slot 0, with another version.
func (s *scene) inSlot0(version int) *scene {
	s.pages[0], s.pages[1], s.slot = s.pages[1], api.Page{}, 0
	s.head().Version = version
	return s
}

// lay lays a page behind all others, and tells its number.
func (s *scene) lay(p api.Page) int {
	s.pages = append(s.pages, p)
	s.head().Count = len(s.pages)
	return len(s.pages) - 1
}

// leaf lays a leaf.
func (s *scene) leaf(items ...api.Item) api.Kid {
	return api.Kid{No: s.lay(leafOf(items...)), Keys: len(items)}
}

// branch lays a branch.
func (s *scene) branch(level int, seps []string, kids ...api.Kid) api.Kid {
	p := api.Page{Kind: api.Branch, Level: level, Kids: kids}
	k := api.Kid{}
	for _, kid := range kids {
		k.Keys += kid.Keys
	}
	for _, sep := range seps {
		p.Seps = append(p.Seps, []byte(sep))
	}
	k.No = s.lay(p)
	return k
}

// root makes what was laid the root.
func (s *scene) root(k api.Kid) *scene {
	h := s.head()
	h.Root, h.Height, h.Keys = k.No, s.pages[k.No].Level+1, k.Keys
	return s
}

// frees sets what the head says of frees.
func (s *scene) frees(first, free int) *scene {
	s.head().First, s.head().Free = first, free
	return s
}

// file is a scene's bytes. Every page of it must be one that may be.
func (s *scene) file(t *testing.T) []byte {
	t.Helper()
	b := make([]byte, 0, len(s.pages)*api.PageSize)
	for no, p := range s.pages {
		if p.Kind == 0 {
			b = append(b, make([]byte, api.PageSize)...)
			continue
		}
		q, err := page.Encode(p)
		if err != api.OK {
			t.Fatalf("page %d may not be: %d", no, err)
		}
		b = append(b, q...)
	}
	for _, no := range s.broken {
		b[no*api.PageSize+7] ^= 4
	}
	return b
}

// is asks that a scene is judged so.
func (s *scene) is(t *testing.T, what string, at int, err api.Errno) *check.File {
	t.Helper()
	return answers(t, what, s.file(t), at, err)
}

// grain are n bytes that hang on a seed, hardly any two neighbours alike.
func grain(n, seed int) []byte {
	b := make([]byte, n)
	for i := range b {
		b[i] = byte(i*7 + i>>8 + seed)
	}
	return b
}

// short is an item whose value stands in it.
func short(key string, size int) api.Item {
	return api.Item{Key: []byte(key), Value: grain(size, len(key)), Size: size}
}

// chained is an item whose value has a chain.
func chained(key string, size, first int) api.Item {
	return api.Item{Key: []byte(key), Size: size, First: first}
}

func leafOf(items ...api.Item) api.Page { return api.Page{Kind: api.Leaf, Items: items} }

// fat are items of 500 bytes each: one for each letter. Five and no more can stand in two leaves that can be joined.
func fat(letters string) []api.Item {
	var l []api.Item
	for _, key := range strings.Split(letters, "") {
		l = append(l, short(key, 500))
	}
	return l
}

func dataOf(next, n int) api.Page {
	return api.Page{Kind: api.Chain, Next: next, Data: grain(n, next)}
}

func freesOf(next int, l ...int) api.Page { return api.Page{Kind: api.Frees, Next: next, List: l} }

// upTo are the numbers from a on, ahead of b.
func upTo(a, b int) []int {
	var l []int
	for ; a < b; a++ {
		l = append(l, a)
	}
	return l
}

// one is the file of one leaf with the pair "a", "x", in slot 0.
func one() *scene {
	s := newScene()
	return s.root(s.leaf(api.Item{Key: []byte("a"), Value: []byte("x"), Size: 1})).inSlot0(2)
}

// pair is a file of two leaves below a root: the pages 2, 3 and 4.
func pair(sep string, a, b []api.Item) *scene {
	s := newScene()
	return s.root(s.branch(1, []string{sep}, s.leaf(a...), s.leaf(b...)))
}

// long is a string of n bytes that begins with a letter.
func long(letter byte, n int) string {
	return string(letter) + strings.Repeat("-", n-1)
}

// longs are strings of n bytes, one for each letter.
func longs(letters string, n int) []string {
	var l []string
	for i := range letters {
		l = append(l, long(letters[i], n))
	}
	return l
}

// bough lays a branch of level 1 with these separators, and leaves below it, of which no two neighbours can be joined: the first one stands behind lo.
func (s *scene) bough(lo string, seps []string) api.Kid {
	var kids []api.Kid
	for _, low := range append([]string{lo}, seps...) {
		kids = append(kids, s.leaf(short(low, 500), short(low+"a", 500), short(low+"b", 500)))
	}
	return s.branch(1, seps, kids...)
}

// deep is a file of two boughs below a root, of seven and of six leaves.
// The first bough's leaves are 2 to 8, it is 9; the second one's are 10 to 15, it is 16; the root is 17. The separator of both is long('n', 250).
func deep() *scene {
	s := newScene()
	a := s.bough("A", longs("bcdefg", 250))
	b := s.bough(long('n', 250), longs("opqrs", 250))
	return s.root(s.branch(2, longs("n", 250), a, b))
}

// laid is a file of a tree whose nodes are new: it is given numbers by noise, and so many pages beside those of the tree are pages of frees or free (not just one: a list has something to list).
func laid(t *testing.T, x *tree.Tree, next func(int) int, spare int) (*scene, *tree.Tree) {
	t.Helper()
	nos := upTo(2, 2+x.Fresh()+spare)
	for i := range nos {
		k := next(i + 1)
		nos[i], nos[k] = nos[k], nos[i]
	}
	x, err := x.Numbered(nos[spare:])
	if err != api.OK {
		t.Fatalf("Numbered: %d", err)
	}
	s := newScene()
	s.pages = append(s.pages, make([]api.Page, len(nos))...)
	*s.head() = api.Head{Version: 1, Count: len(s.pages)}
	s.layTree(x)
	s.layFrees(nos[:spare])
	return s, x
}

// layTree lays a tree at its own numbers.
func (s *scene) layTree(x *tree.Tree) {
	nodes := x.Nodes()
	counts := make([]int, len(nodes))
	for i, n := range nodes {
		p := api.Page{Kind: api.Leaf}
		for k, q := range n.Pairs {
			it := api.Item{Key: q.Key, Value: q.Value, Size: len(q.Value)}
			for j, piece := range chain.Pieces(q.Value) {
				nos := append(slices.Clone(n.Chains[k]), 0)
				it.Value, it.First = nil, nos[0]
				s.pages[nos[j]] = api.Page{Kind: api.Chain, Next: nos[j+1], Data: piece}
			}
			p.Items = append(p.Items, it)
		}
		counts[i] = len(n.Pairs)
		if n.Level > 0 {
			p = api.Page{Kind: api.Branch, Level: n.Level, Seps: n.Seps}
			for _, k := range n.Kids {
				p.Kids = append(p.Kids, api.Kid{No: nodes[k].No, Keys: counts[k]})
				counts[i] += counts[k]
			}
		}
		s.pages[n.No] = p
		h := s.head()
		h.Root, h.Height, h.Keys = n.No, n.Level+1, counts[i]
	}
}

// layFrees lays a list of these numbers into some of them: as few as can hold it, and no other number of pages would do. The last one may be empty.
func (s *scene) layFrees(nos []int) {
	if len(nos) == 0 {
		return
	}
	k := 1
	for k*api.FreesPer < len(nos)-k {
		k++
	}
	lists, free := nos[:k], slices.Sorted(slices.Values(nos[k:]))
	s.frees(lists[0], len(free))
	for i, no := range lists {
		next := 0
		if i+1 < k {
			next = lists[i+1]
		}
		n := min(len(free), api.FreesPer)
		s.pages[no] = freesOf(next, free[:n]...)
		free = free[n:]
	}
}

// kind is a kind of keys and values of which trees are grown.
type kind struct {
	name  string
	pairs int
	key   func(next func(int) int) string
	sizes []int
}

// anyOf is a string of n letters out of a few.
func anyOf(next func(int) int, n int, letters string) string {
	b := make([]byte, n)
	for i := range b {
		b[i] = letters[next(len(letters))]
	}
	return string(b)
}

// clustered is one of many keys of 255 bytes, of which few share much, so that separators are long and trees are high.
func clustered(next func(int) int) string {
	k := next(110)
	return string([]byte{byte(k * 37), byte(k)}) + strings.Repeat("x", 252) + string(rune('0'+next(30)))
}

// kinds are of all heights up to 4, with chains and without.
func kinds() []kind {
	return []kind{
		{"one", 1, func(func(int) int) string { return "k" }, []int{0, 512, 513, 262144}},
		{"few", 12, func(next func(int) int) string { return anyOf(next, 1+next(3), "abc") }, []int{0, 5, 40}},
		{"some", 60, func(next func(int) int) string { return anyOf(next, 1+next(5), "\x00abcd\xff") }, []int{100, 300, 512}},
		{"chains", 20, func(next func(int) int) string { return anyOf(next, 1+next(60), "ab\x00") }, []int{0, 512, 513, 600, 4085, 4086, 9000}},
		{"mixed", 40, func(next func(int) int) string { return anyOf(next, 1+next(255), "aab\xff") }, []int{0, 100, 300, 512, 513}},
		{"three", 300, clustered, []int{512, 512, 400}},
		{"high", 2600, clustered, []int{512, 512, 400}},
	}
}

// grow grows a tree of a kind.
func (k kind) grow(next func(int) int) *tree.Tree {
	x := tree.Empty()
	for range k.pairs {
		x, _ = x.With([]byte(k.key(next)), grain(k.sizes[next(len(k.sizes))], next(256)))
	}
	return x
}

// thinned takes out most pairs, so that separators stay whose keys have gone.
func thinned(x *tree.Tree, next func(int) int) *tree.Tree {
	for _, n := range x.Nodes() {
		for _, p := range n.Pairs {
			if next(3) > 0 {
				x, _ = x.Without(p.Key)
			}
		}
	}
	return x
}

// eachTree runs a test of trees of all kinds, all of whose nodes are new.
func eachTree(t *testing.T, f func(t *testing.T, x *tree.Tree, next func(int) int)) {
	t.Helper()
	t.Run("empty", func(t *testing.T) { f(t, tree.Empty(), noise(1)) })
	for i, k := range kinds() {
		for round := range 2 {
			t.Run(fmt.Sprint(k.name, round), func(t *testing.T) {
				t.Parallel()
				next := noise(uint64(10*i + round))
				x := k.grow(next)
				if round == 1 {
					x = thinned(x, next)
				}
				f(t, x, next)
			})
		}
	}
}

// copied is a scene that shares no list with s.
func (s *scene) copied() *scene {
	c := *s
	c.pages, c.broken = slices.Clone(s.pages), slices.Clone(s.broken)
	for i := range c.pages {
		c.pages[i] = copied(c.pages[i])
	}
	return &c
}

// copied is a page that shares no list with p.
func copied(p api.Page) api.Page {
	p.Items = slices.Clone(p.Items)
	for i := range p.Items {
		p.Items[i].Key, p.Items[i].Value = bytes.Clone(p.Items[i].Key), bytes.Clone(p.Items[i].Value)
	}
	p.Seps = slices.Clone(p.Seps)
	for i := range p.Seps {
		p.Seps[i] = bytes.Clone(p.Seps[i])
	}
	p.Kids, p.Data, p.List = slices.Clone(p.Kids), bytes.Clone(p.Data), slices.Clone(p.List)
	return p
}
