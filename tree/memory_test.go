package tree_test

import (
	"bytes"
	"fmt"
	"slices"
	"strings"
	"sync"
	"testing"

	"coppice/api"
	"coppice/tree"
)

// withRoom copies a list, with three elements in its spare room; the whole of it has them.
func withRoom[T any](l []T, spare T) (copied, whole []T) {
	whole = append(slices.Clone(l), spare, spare, spare)
	return whole[:len(l)], whole
}

// roomyBytes copies bytes with spare room, and tells whether all of them are as they were.
func roomyBytes(s string) (copied []byte, unchanged func() bool) {
	copied, whole := withRoom([]byte(s), 0x55)
	were := bytes.Clone(whole)
	return copied, func() bool { return bytes.Equal(whole, were) }
}

// spoilBytes writes over bytes and their spare room.
func spoilBytes(b []byte) {
	for i := range b[:cap(b)] {
		b[:cap(b)][i] ^= 0xa5
	}
}

// spoilInts writes over numbers and their spare room.
func spoilInts(l []int) {
	for i := range l[:cap(l)] {
		l[:cap(l)][i] += 1000
	}
}

// spoilNodes writes over nodes, all lists in them, and all spare room.
func spoilNodes(l []api.Node) {
	for i := range l {
		n := &l[i]
		for _, p := range n.Pairs {
			spoilBytes(p.Key)
			spoilBytes(p.Value)
		}
		for _, c := range n.Chains {
			spoilInts(c)
		}
		for _, s := range n.Seps {
			spoilBytes(s)
		}
		spoilInts(n.Kids)
		for k := range n.Pairs[:cap(n.Pairs)] {
			n.Pairs[:cap(n.Pairs)][k] = api.Pair{Key: []byte("spoilt"), Value: []byte("spoilt")}
		}
		for k := range n.Chains[:cap(n.Chains)] {
			n.Chains[:cap(n.Chains)][k] = []int{-7}
		}
		for k := range n.Seps[:cap(n.Seps)] {
			n.Seps[:cap(n.Seps)][k] = []byte("spoilt")
		}
	}
	for i := range l[:cap(l)] {
		l[:cap(l)][i] = api.Node{No: -9, Level: -9}
	}
}

// cloneNodes copies nodes and all lists in them.
func cloneNodes(l []api.Node) []api.Node {
	out := make([]api.Node, len(l))
	for i, n := range l {
		m := api.Node{No: n.No, Level: n.Level, Kids: slices.Clone(n.Kids)}
		for _, p := range n.Pairs {
			m.Pairs = append(m.Pairs, api.Pair{Key: bytes.Clone(p.Key), Value: bytes.Clone(p.Value)})
		}
		for _, c := range n.Chains {
			m.Chains = append(m.Chains, slices.Clone(c))
		}
		for _, s := range n.Seps {
			m.Seps = append(m.Seps, bytes.Clone(s))
		}
		out[i] = m
	}
	return out
}

// someTrees are a few of all trees, small and great.
func someTrees(t *testing.T) map[string]*tree.Tree {
	t.Helper()
	trees := map[string]*tree.Tree{"letters": numbered(t, lettered(t, "abcdefghijklmnopqr"), 2)}
	all := full(t)
	for i, name := range names(all) {
		if i%4 == 0 {
			trees[name] = all[name]
		}
	}
	trees["hedge"] = built(t, hedgeOf(noise(11), 2))
	return trees
}

// What is handed to With, Without and Get is as it was behind the call, its spare room too.
func TestP10_11HandedInIsNotChanged(t *testing.T) {
	trees := someTrees(t)
	for _, name := range names(trees) {
		x := trees[name]
		for _, size := range []int{0, 10, 512, 513, 9000} {
			key, keyIs := roomyBytes("key")
			value, valueIs := roomyBytes(strings.Repeat("v", size))
			y, err := x.With(key, value)
			if err != api.OK {
				t.Fatalf("%s: With: %d", name, err)
			}
			y.Get(key)
			y.With(key, value)
			y.Without(key)
			if !keyIs() || !valueIs() {
				t.Errorf("%s: a key or a value that was handed in has changed", name)
			}
		}
		nos, whole := withRoom(freeNumbers(x), 77)
		were := slices.Clone(whole)
		if _, err := x.Numbered(nos); err != api.OK || !slices.Equal(whole, were) {
			t.Errorf("%s: numbers that were handed in have changed", name)
		}
	}
}

// freeNumbers are as many numbers as the tree wants, none of which it has.
func freeNumbers(x *tree.Tree) []int {
	var nos []int
	for i := range x.Fresh() {
		nos = append(nos, 400000+i)
	}
	return nos
}

// What was handed in is written over behind the call: the tree has what it was given.
func TestP10_11HandedInIsNotKept(t *testing.T) {
	trees := someTrees(t)
	for _, name := range names(trees) {
		x := trees[name]
		for _, size := range []int{0, 10, 512, 513, 9000} {
			key, value := slices.Grow([]byte("key"), 20), slices.Grow(bytes.Repeat([]byte("v"), size), 20)
			y, err := x.With(key, value)
			if err != api.OK {
				t.Fatalf("%s: With: %d", name, err)
			}
			was := y.Nodes()
			spoilBytes(key)
			spoilBytes(value)
			wantNodes(t, name, y, was)
			wantGet(t, y, "key", strings.Repeat("v", size), true)
		}
		nos := freeNumbers(x)
		y, err := x.Numbered(nos)
		if err != api.OK {
			t.Fatalf("%s: Numbered: %d", name, err)
		}
		was := y.Nodes()
		spoilInts(nos)
		wantNodes(t, name, y, was)
	}
}

// Build changes nothing of a list, taken or refused, and keeps nothing of it.
func TestP10_11BuildKeepsNothing(t *testing.T) {
	trees := someTrees(t)
	for _, name := range names(trees) {
		l, _ := withRoom(trees[name].Nodes(), api.Node{No: 5})
		for i := range l {
			l[i].Pairs, _ = withRoom(l[i].Pairs, api.Pair{Key: []byte("spare")})
			l[i].Chains, _ = withRoom(l[i].Chains, []int{3})
			l[i].Seps, _ = withRoom(l[i].Seps, []byte("spare"))
			l[i].Kids, _ = withRoom(l[i].Kids, 3)
		}
		room := l[:len(l)+3]
		was := cloneNodes(room)
		x := built(t, l)
		if _, err := tree.Build(l[:len(l)/2+1]); len(l) > 2 && err != api.ErrTree {
			t.Errorf("%s: half of it is a tree", name)
		}
		if !slices.EqualFunc(room, was, equalNode) {
			t.Errorf("%s: the list has changed", name)
		}
		for i, n := range l {
			if p := n.Pairs[:len(n.Pairs)+3]; string(p[len(n.Pairs)].Key) != "spare" {
				t.Errorf("%s: the spare room of the pairs at %d has changed", name, i)
			}
			if c := n.Chains[:len(n.Chains)+1]; !slices.Equal(c[len(n.Chains)], []int{3}) {
				t.Errorf("%s: the spare room of the chains at %d has changed", name, i)
			}
			if s := n.Seps[:len(n.Seps)+1]; string(s[len(n.Seps)]) != "spare" {
				t.Errorf("%s: the spare room of the separators at %d has changed", name, i)
			}
			if k := n.Kids[:len(n.Kids)+1]; k[len(n.Kids)] != 3 {
				t.Errorf("%s: the spare room of the kids at %d has changed", name, i)
			}
		}
		spoilNodes(l)
		wantNodes(t, name, x, was[:len(l)])
	}
}

// Whatever is written into an answer, its spare room too: no tree shows it, and no other answer.
func TestP10_11AnswersAreNewMemory(t *testing.T) {
	trees := someTrees(t)
	for _, name := range names(trees) {
		x := trees[name]
		first, second := x.Nodes(), x.Nodes()
		was, numbers := cloneNodes(first), slices.Clone(x.Numbers())
		spoilNodes(first)
		if !slices.EqualFunc(second, was, equalNode) {
			t.Errorf("%s: an answer shows what was written into another one", name)
		}
		for _, p := range plainFrom(was, nil).pairs() {
			a, _ := x.Get([]byte(p.key))
			b, _ := x.Get([]byte(p.key))
			spoilBytes(a)
			if string(b) != p.value {
				t.Fatalf("%s: a value shows what was written into another one", name)
			}
		}
		spoilInts(x.Numbers())
		wantNodes(t, name, x, was)
		if !slices.Equal(x.Numbers(), numbers) {
			t.Errorf("%s: the numbers have changed", name)
		}
	}
}

// In one answer no two lists share memory: what is written into one, or appended to it, no other one shows.
func TestP10_11ListsOfOneAnswer(t *testing.T) {
	x := with(t, numbered(t, with(t, with(t, lettered(t, "abcdefghijklmnop"), "c", strings.Repeat("v", 9000)), "d", strings.Repeat("v", 9000)), 2), "cc", "")
	h := built(t, hedgeOf(noise(12), 2))
	for _, x := range []*tree.Tree{x, h} {
		was := x.Nodes()
		l := x.Nodes()
		for i := range l {
			for k := range l[i].Pairs {
				p := &l[i].Pairs[k]
				was[i].Pairs[k] = api.Pair{Key: []byte(fmt.Sprint("key ", i, k)), Value: []byte(fmt.Sprint("value ", i, k))}
				p.Key, p.Value = append(p.Key[:0], was[i].Pairs[k].Key...), append(p.Value[:0], was[i].Pairs[k].Value...)
				was[i].Chains[k] = append(was[i].Chains[k], 1000*i+k)
				l[i].Chains[k] = append(l[i].Chains[k], 1000*i+k)
			}
			for k := range l[i].Seps {
				was[i].Seps[k] = []byte(fmt.Sprint("sep ", i, k))
				l[i].Seps[k] = append(l[i].Seps[k][:0], was[i].Seps[k]...)
			}
			was[i].Kids = append(was[i].Kids, i)
			l[i].Kids = append(l[i].Kids, i)
			was[i].Seps = append(was[i].Seps, []byte{byte(i)})
			l[i].Seps = append(l[i].Seps, []byte{byte(i)})
			was[i].Pairs = append(was[i].Pairs, api.Pair{Key: []byte{byte(i)}})
			l[i].Pairs = append(l[i].Pairs, api.Pair{Key: []byte{byte(i)}})
		}
		if !slices.EqualFunc(l, was, equalNode) {
			t.Error("a list of an answer shows what was written into another one")
		}
	}
}

// Many may ask one tree, and make others of it, at the same time.
func TestP10_11ManyAtOnce(t *testing.T) {
	x := built(t, hedgeOf(noise(13), 2))
	was := x.Nodes()
	pairs := plainFrom(was, nil).pairs()
	var group sync.WaitGroup
	for hand := range 8 {
		group.Go(func() {
			for i := hand; i < len(pairs); i += 8 {
				y, _ := x.Without([]byte(pairs[i].key))
				z, _ := y.With([]byte(pairs[i].key), []byte("other"))
				value, has := z.Get([]byte(pairs[i].key))
				if !has || string(value) != "other" || z.Len() != x.Len() || z.Height() == 0 || z.Fresh() == 0 || len(z.Numbers()) == 0 {
					t.Errorf("hand %d, pair %d: %q", hand, i, value)
				}
			}
		})
	}
	group.Wait()
	wantNodes(t, "asked by many", x, was)
}

// The same calls make the same trees.
func TestP0_4TheSameAnswerAgain(t *testing.T) {
	for k, w := range woods()[:5] {
		var told [2][]api.Node
		var numbers [2][]int
		for round := range told {
			next := noise(uint64(40 + k))
			x := tree.Empty()
			for _, s := range w.steps(next, 0)[:w.pairs*5/4] {
				if s.gone {
					x, _ = x.Without([]byte(s.key))
				} else {
					x = with(t, x, s.key, s.value)
				}
			}
			x = with(t, numbered(t, x, 2), "last", "one")
			told[round], numbers[round] = x.Nodes(), x.Numbers()
		}
		if !slices.EqualFunc(told[0], told[1], equalNode) || !slices.Equal(numbers[0], numbers[1]) {
			t.Errorf("%s: another tree the second time", w.name)
		}
	}
}
