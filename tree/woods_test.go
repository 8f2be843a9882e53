package tree_test

import (
	"bytes"
	"fmt"
	"slices"
	"sort"
	"strings"
	"sync"
	"testing"

	"coppice/api"
	"coppice/tree"
)

// wood is a kind of keys and values of which trees are grown, and how many.
type wood struct {
	name  string
	pairs int
	key   func(next func(int) int) string
	size  []int // how many bytes a value may have
}

// anyOf is a string of n letters out of a few.
func anyOf(next func(int) int, n int, letters string) string {
	b := make([]byte, n)
	for i := range b {
		b[i] = letters[next(len(letters))]
	}
	return string(b)
}

// longKey is one of many keys of 255 bytes: in clusters of 30 that have 254 bytes in common, and of which few share anything.
// So separators are long, branches have few kids, and trees are high.
func longKey(cluster, i int) string {
	return string([]byte{byte(cluster * 37), byte(cluster)}) + strings.Repeat("x", 252) + string(rune('0'+i))
}

// woods are all kinds: few and many, short and long, with chains and without.
func woods() []wood {
	return []wood{
		{"letters", 45, func(next func(int) int) string {
			return anyOf(next, 1, "ABCDEFGHIJKLMNOPQRSTUVWXYZabcdefghijklmnopqrstuvwxyz")
		}, []int{500, 500, 500, 300, 100}},
		{"small", 900, func(next func(int) int) string { return anyOf(next, 1+next(5), "\x00abcdefg\xff") }, []int{0, 1, 7, 30}},
		{"high", 700, func(next func(int) int) string { return longKey(next(50), next(30)) }, []int{512, 512, 512, 400}},
		{"thin", 500, func(next func(int) int) string { return longKey(next(60), next(30)) }, []int{0, 512, 513, 300}},
		{"chains", 300, func(next func(int) int) string { return anyOf(next, 1+next(60), "ab\x00\xff") }, []int{0, 512, 513, 513, 4085, 4086, 9000}},
		{"mixed", 500, func(next func(int) int) string { return anyOf(next, 1+next(255), "aab\xff") }, []int{0, 1, 100, 300, 512, 512, 513}},
		{"heads", 500, func(next func(int) int) string {
			return []string{"", strings.Repeat("p", 150), strings.Repeat("p", 149) + "q"}[next(3)] + anyOf(next, 1+next(100), "abc")
		}, []int{0, 60, 200, 512}},
	}
}

// value is a value of that wood.
func (w wood) value(next func(int) int) string {
	return strings.Repeat(string(rune('a'+next(26))), w.size[next(len(w.size))])
}

// step is one change: a key, and its value or that it goes.
type step struct {
	key, value string
	gone       bool
}

// steps grow a tree of that wood, change much in it, and take all out of it again, from the left, from the right, or anyhow.
func (w wood) steps(next func(int) int, way int) []step {
	var l []step
	has := map[string]string{}
	do := func(s step) {
		l = append(l, s)
		if s.gone {
			delete(has, s.key)
		} else {
			has[s.key] = s.value
		}
	}
	for len(has) < w.pairs {
		do(step{key: w.key(next), value: w.value(next)})
	}
	some := func() []string {
		keys := make([]string, 0, len(has))
		for k := range has {
			keys = append(keys, k)
		}
		sort.Strings(keys)
		return keys
	}
	all := some()
	for range w.pairs / 2 {
		k := all[next(len(all))]
		switch next(4) {
		case 0:
			do(step{key: k, value: has[k]})
		case 1:
			do(step{key: w.key(next), gone: true})
		case 2:
			do(step{key: k, gone: true})
		case 3:
			do(step{key: w.key(next), value: w.value(next)})
		}
	}
	keys := some()
	switch way {
	case 0:
		for i := range keys {
			k := next(i + 1)
			keys[i], keys[k] = keys[k], keys[i]
		}
	case 1:
		slices.Reverse(keys)
	case 3: // from the middle on, both ways
		half := len(keys) / 2
		a, b := slices.Clone(keys[:half]), slices.Clone(keys[half:])
		slices.Reverse(a)
		keys = keys[:0]
		for len(a)+len(b) > 0 {
			if len(a) > 0 {
				keys, a = append(keys, a[0]), a[1:]
			}
			if len(b) > 0 {
				keys, b = append(keys, b[0]), b[1:]
			}
		}
	}
	for _, k := range keys {
		do(step{key: k, gone: true})
	}
	return l
}

// play goes through steps, and hands over each tree with the one ahead of it.
func play(t *testing.T, steps []step, x *tree.Tree, each func(i int, s step, before, after *tree.Tree) *tree.Tree) {
	t.Helper()
	for i, s := range steps {
		var y *tree.Tree
		if s.gone {
			y, _ = x.Without([]byte(s.key))
		} else {
			y = with(t, x, s.key, s.value)
		}
		if y == nil {
			t.Fatalf("step %d answers no tree", i)
		}
		x = each(i, s, x, y)
	}
}

// with is a tree with one pair more, which may be.
func with(t *testing.T, x *tree.Tree, key, value string) *tree.Tree {
	t.Helper()
	y, err := x.With([]byte(key), []byte(value))
	if err != api.OK || y == nil {
		t.Fatalf("With(%.20q, %d bytes): %d", key, len(value), err)
	}
	return y
}

// without is a tree without one of its pairs.
func without(t *testing.T, x *tree.Tree, key string) *tree.Tree {
	t.Helper()
	y, had := x.Without([]byte(key))
	if !had || y == nil {
		t.Fatalf("Without(%.20q): %v", key, had)
	}
	return y
}

// numbered is a tree with numbers from first on for all that is new.
func numbered(t *testing.T, x *tree.Tree, first int) *tree.Tree {
	t.Helper()
	var nos []int
	for i := range x.Fresh() {
		nos = append(nos, first+i)
	}
	y, err := x.Numbered(nos)
	if err != api.OK || y == nil || y.Fresh() != 0 {
		t.Fatalf("Numbered from %d on: %d", first, err)
	}
	return y
}

// built is the tree of a list that is one's.
func built(t *testing.T, l []api.Node) *tree.Tree {
	t.Helper()
	x, err := tree.Build(l)
	if err != api.OK || x == nil {
		t.Fatalf("Build: %d, of the nodes\n%s(%s)", err, tell(l), unsound(l))
	}
	return x
}

// leafOf is a leaf of these keys, each with a value of size bytes.
func leafOf(no, size int, keys ...string) api.Node {
	n := api.Node{No: no}
	for _, k := range keys {
		n.Pairs = append(n.Pairs, api.Pair{Key: []byte(k), Value: bytes.Repeat([]byte{'v'}, size)})
		n.Chains = append(n.Chains, nil)
	}
	return n
}

// lettersOf are keys of one letter each.
func lettersOf(s string) []string { return strings.Split(s, "") }

// branchOf is a branch.
func branchOf(no, level int, seps []string, kids ...int) api.Node {
	n := api.Node{No: no, Level: level, Kids: kids}
	for _, s := range seps {
		n.Seps = append(n.Seps, []byte(s))
	}
	return n
}

// hedge makes sound trees by hand: keys of 255 bytes with next to nothing in common, values of 500.
// A pair has 761 bytes in a leaf, so leaves can be joined if they have 3 pairs at most in all; a separator has 267 in a branch, so branches can if they have 12 kids at most.
// What stands at the ends of a branch is small: it can be joined with what stands at the ends of the next one.
type hedge struct {
	next func(int) int
	keys int
	l    []api.Node
	head []string // the first key below each node
}

// hedgeKey is the key with that number; between each two of a hedge there is room for three others.
func hedgeKey(i int) string {
	return string([]byte{byte(i >> 8), byte(i)}) + strings.Repeat("x", 253)
}

// counts are as many numbers, from 1 to most, of which each two neighbours are least together at least, and small at the ends.
func (h *hedge) counts(n, most, least int) []int {
	l := []int{1 + h.next(least/2)}
	for len(l) < n {
		from := max(1, least-l[len(l)-1])
		if len(l) == n-1 || h.next(3) == 0 {
			l = append(l, from)
		} else {
			l = append(l, from+h.next(most-from+1))
		}
	}
	return l
}

// leaf lays a leaf down.
func (h *hedge) leaf(pairs int) int {
	var keys []string
	for range pairs {
		h.keys += 4
		keys = append(keys, hedgeKey(h.keys))
	}
	h.l, h.head = append(h.l, leafOf(2+len(h.l), 500, keys...)), append(h.head, keys[0])
	return len(h.l) - 1
}

// branch lays a branch down with all that lies below it.
func (h *hedge) branch(level, kids int) int {
	n := branchOf(0, level, nil)
	counts := h.counts(kids, 5, 4)
	if level > 1 {
		counts = h.counts(kids, 15, 13)
	}
	for i, count := range counts {
		kid := 0
		if level == 1 {
			kid = h.leaf(count)
		} else {
			kid = h.branch(level-1, count)
		}
		n.Kids = append(n.Kids, kid)
		if i > 0 {
			n.Seps = append(n.Seps, []byte(h.head[kid]))
		}
	}
	n.No = 2 + len(h.l)
	h.l, h.head = append(h.l, n), append(h.head, h.head[n.Kids[0]])
	return len(h.l) - 1
}

// hedgeOf are the nodes of a hedge whose root has that level.
func hedgeOf(next func(int) int, level int) []api.Node {
	h := &hedge{next: next}
	h.branch(level, 2+next(3))
	return h.l
}

// grown are the trees that full tells: they never change, so one growing serves all tests.
var grown struct {
	sync.Once
	trees map[string]*tree.Tree
}

// full are some trees of every wood, of all heights, with their numbers or without, and some hedges.
func full(t *testing.T) map[string]*tree.Tree {
	t.Helper()
	grown.Do(func() { grown.trees = grow(t) })
	return grown.trees
}

// grow makes the trees of full.
func grow(t *testing.T) map[string]*tree.Tree {
	l := map[string]*tree.Tree{"empty": tree.Empty()}
	for k, w := range woods() {
		next := noise(uint64(10 + k))
		steps := w.steps(next, 0)
		ends := []int{1, 10, w.pairs / 3, w.pairs, w.pairs * 5 / 4, len(steps) - w.pairs/2}
		play(t, steps, tree.Empty(), func(i int, s step, before, after *tree.Tree) *tree.Tree {
			if slices.Contains(ends, i) {
				l[fmt.Sprintf("%s behind step %d", w.name, i)] = after
				l[fmt.Sprintf("%s behind step %d, numbered", w.name, i)] = numbered(t, after, 2+after.Len())
				l[fmt.Sprintf("%s behind step %d, numbered and changed", w.name, i)] = with(t, numbered(t, after, 7), w.key(next), "new"+w.value(next))
			}
			return after
		})
	}
	next := noise(9)
	for i := range 9 {
		l[fmt.Sprint("hedge ", i)] = built(t, hedgeOf(next, 1+i%3))
	}
	return l
}

// names are the names of a map, in order.
func names[T any](m map[string]T) []string {
	var l []string
	for name := range m {
		l = append(l, name)
	}
	sort.Strings(l)
	return l
}
