package stats_test

import (
	"fmt"
	"slices"
	"strings"
	"testing"

	"coppice/api"
	"coppice/tree"
)

// with is a tree with one pair more: a key, and a value of so many bytes.
func with(t *testing.T, x *tree.Tree, key string, size int) *tree.Tree {
	t.Helper()
	y, err := x.With([]byte(key), make([]byte, size))
	if err != api.OK {
		t.Fatalf("With %.9q: %d", key, err)
	}
	return y
}

// letters is the tree of one letter after the other, from "a" on, with values of so many bytes.
func letters(t *testing.T, sizes ...int) *tree.Tree {
	t.Helper()
	x := tree.Empty()
	for i, size := range sizes {
		x = with(t, x, string(rune('a'+i)), size)
	}
	return x
}

// built is the tree of a list of nodes.
func built(t *testing.T, l []api.Node) *tree.Tree {
	t.Helper()
	x, err := tree.Build(l)
	if err != api.OK {
		t.Fatalf("Build of %d nodes: %d", len(l), err)
	}
	return x
}

// numbered is the same tree with numbers for all pages, the first of them from.
func numbered(t *testing.T, x *tree.Tree, from int) *tree.Tree {
	t.Helper()
	nos := make([]int, x.Fresh())
	for i := range nos {
		nos[i] = from + i
	}
	y, err := x.Numbered(nos)
	if err != api.OK {
		t.Fatalf("Numbered: %d", err)
	}
	return y
}

// begin is what the keys of the i-th leaf begin with.
func begin(i int) string { return string([]byte{byte(i >> 8), byte(i)}) }

// leafOf is the i-th leaf of a row, of just that size, which is 600 at least.
// It has two pairs at least, so 6 bytes ahead of them; each has 6 bytes beside its value, or 5, if that has at most 63.
func leafOf(t *testing.T, i, size int) api.Node {
	t.Helper()
	var values []int
	left := size - 6
	for left > 518 {
		values, left = append(values, 512), left-518
	}
	if left < 5 {
		values[0], left = values[0]-5, left+5
	}
	switch {
	case left == 69: // no value has it: one of 63 comes to 68, one of 64 to 70
		values = append(values, 29, 30)
	case left < 69:
		values = append(values, left-5)
	default:
		values = append(values, left-6)
	}
	n := api.Node{}
	for k, v := range values {
		n.Pairs = append(n.Pairs, api.Pair{Key: []byte(begin(i) + string(rune('0'+k))), Value: make([]byte, v)})
	}
	if got := plainSize(n); got != size {
		t.Fatalf("a leaf of %d, not of %d", got, size)
	}
	return n
}

// rowOf is a tree of leaves of these sizes, from the left to the right: no two neighbours may be joined, so they have above JoinMax bytes together.
// Up to 300 of them stand below one branch; of more each branch has 150 at least.
func rowOf(t *testing.T, sizes ...int) *tree.Tree {
	t.Helper()
	if len(sizes) == 1 {
		return built(t, []api.Node{leafOf(t, 0, sizes[0])})
	}
	var l []api.Node
	groups := (len(sizes) + 299) / 300
	root := api.Node{Level: 2}
	for g := range groups {
		from, to := g*len(sizes)/groups, (g+1)*len(sizes)/groups
		above := api.Node{Level: 1}
		for i := from; i < to; i++ {
			if i > from {
				above.Seps = append(above.Seps, []byte(begin(i)))
			}
			above.Kids = append(above.Kids, len(l))
			l = append(l, leafOf(t, i, sizes[i]))
		}
		if g > 0 {
			root.Seps = append(root.Seps, []byte(begin(from)))
		}
		root.Kids = append(root.Kids, len(l))
		l = append(l, above)
	}
	if groups > 1 {
		l = append(l, root)
	}
	return built(t, l)
}

// anySizes are n sizes that leaves of a row may have.
func anySizes(next func(int) int, n int) []int {
	l := make([]int, n)
	for i := range l {
		l[i] = 1600 + next(2493)
	}
	return l
}

// anyOf is a string of n bytes out of a few.
func anyOf(next func(int) int, n int, of string) string {
	b := make([]byte, n)
	for i := range b {
		b[i] = of[next(len(of))]
	}
	return string(b)
}

// wood is a kind of keys and values of which trees are grown, and how many.
type wood struct {
	name  string
	pairs int
	key   func(next func(int) int) string
	sizes []int // how many bytes a value may have
}

// woods are all kinds: few and many, short and long, low and high, with chains and without.
func woods() []wood {
	return []wood{
		{"letters", 45, func(next func(int) int) string {
			return anyOf(next, 1, "ABCDEFGHIJKLMNOPQRSTUVWXYZabcdefghijklmnopqrstuvwxyz")
		}, []int{500, 500, 500, 300, 100}},
		{"small", 900, func(next func(int) int) string { return anyOf(next, 1+next(5), "\x00abcdefg\xff") }, []int{0, 1, 7, 30}},
		{"high", 2000, func(next func(int) int) string {
			cluster := next(100)
			return string([]byte{byte(cluster * 37), byte(cluster)}) + strings.Repeat("x", 252) + anyOf(next, 1, "0123456789abcdefghijklmnopqrst")
		}, []int{512, 512, 512, 400}},
		{"chains", 250, func(next func(int) int) string { return anyOf(next, 1+next(60), "ab\x00\xff") }, []int{0, 512, 513, 513, 4085, 4086, 9000}},
		{"mixed", 500, func(next func(int) int) string { return anyOf(next, 1+next(255), "aab\xff") }, []int{0, 1, 100, 300, 512, 512, 513}},
		{"heads", 500, func(next func(int) int) string {
			return []string{"", strings.Repeat("p", 150), strings.Repeat("p", 149) + "q"}[next(3)] + anyOf(next, 1+next(100), "abc")
		}, []int{0, 60, 200, 512}},
	}
}

// grove is a tree under a name.
type grove struct {
	name string
	x    *tree.Tree
}

// grown are trees of that wood: half grown, full grown, with a part of it numbered, and thinned out again.
func (w wood) grown(t *testing.T, next func(int) int) []grove {
	t.Helper()
	var l []grove
	x := tree.Empty()
	var keys []string
	grow := func(n int) {
		for x.Len() < n {
			key := w.key(next)
			keys = append(keys, key)
			x = with(t, x, key, w.sizes[next(len(w.sizes))])
		}
	}
	grow(w.pairs / 2)
	l = append(l, grove{w.name + ", half", x})
	x = numbered(t, x, 2)
	grow(w.pairs)
	l = append(l, grove{w.name + ", full", x})
	for _, k := range slices.Compact(slices.Sorted(slices.Values(keys))) {
		if next(3) > 0 {
			x, _ = x.Without([]byte(k))
		}
	}
	return append(l, grove{w.name + ", thinned out", x})
}

// groves are trees of all kinds, the empty one too.
func groves(t *testing.T) []grove {
	t.Helper()
	next := noise(2200)
	l := []grove{
		{"empty", tree.Empty()},
		{"one", letters(t, 0)},
		{"nine", letters(t, 500, 500, 500, 500, 500, 500, 500, 500, 500)},
	}
	for _, n := range []int{1, 2, 3, 7, 64, 300, 301, 1000} {
		l = append(l, grove{fmt.Sprint("a row of ", n), rowOf(t, anySizes(next, n)...)})
	}
	for _, w := range woods() {
		l = append(l, w.grown(t, next)...)
	}
	return l
}
