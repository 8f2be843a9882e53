package check_test

import (
	"bytes"
	"slices"
	"testing"

	"coppice/api"
	"coppice/check"
	"coppice/tree"
)

// spoil writes over bytes, and over their spare room; done twice or thrice it brings nothing back.
func spoil(b []byte) {
	b = b[:cap(b)]
	for i := range b {
		b[i] += 101
	}
}

// spoilList writes over a list, and over its spare room.
func spoilList(l []int) {
	_ = append(l, 77, 78, 79)
	l = l[:cap(l)]
	for i := range l {
		l[i] += 101
	}
}

// TestP15_3HandedIn: the bytes are as they were, what stands behind them too, and nothing hangs on them any more.
func TestP15_3HandedIn(t *testing.T) {
	whole := whole().file(t)
	for _, n := range []int{0, 1, 4095, 4096, 8191, 8192, 8193, 3 * 4096, len(whole) - 4096, len(whole) - 1, len(whole)} {
		room := append(slices.Clone(whole[:n]), bytes.Repeat([]byte{0x55}, 5000)...)
		asked(t, room[:n]) // holds the bytes and the room behind them against what they were
	}
	for _, flaw := range flaws() {
		s := sceneWith(flaw)
		asked(t, append(s.file(t), 1, 2, 3)[:len(s.pages)*api.PageSize])
	}
	eachTree(t, func(t *testing.T, x *tree.Tree, next func(int) int) {
		s, _ := laid(t, x, next, 5)
		file := s.file(t)
		f, _, _ := check.Open(file)
		says := saying(f)
		for range 3 {
			spoil(file)
			if saying(f) != says {
				t.Fatal("the file says something else when its bytes are written over")
			}
		}
	})
}

// sceneWith is the whole file with one flaw.
func sceneWith(f flaw) *scene {
	s := whole()
	f.lay(s)
	return s
}

// TestP15_3HandedOut: each list is new memory.
func TestP15_3HandedOut(t *testing.T) {
	file := freed(1030, freesOf(3, upTo(4, 1025)...), freesOf(0, 1025, 1026, 1027, 1028, 1029)).file(t)
	f, _, _ := check.Open(file)
	g, _, _ := check.Open(file)
	lists := func() [][]int { return [][]int{f.Free(), f.Lists(), f.Free(), f.Lists(), g.Free(), g.Lists()} }
	was := lists()
	for round := range 3 {
		l := lists()
		for i := range l {
			if !slices.Equal(l[i], was[i]) {
				t.Fatalf("round %d: the list %d is not as it was", round, i)
			}
			others := slices.Clone(l)
			for k := range others {
				others[k] = slices.Clone(others[k][:cap(others[k])])
			}
			spoilList(l[i])
			for k := range l {
				if k != i && !slices.Equal(l[k][:cap(l[k])], others[k]) {
					t.Fatalf("the list %d shows what was written into the list %d", k, i)
				}
			}
		}
	}
	nodes := func() []api.Node { f, _, _ := check.Open(whole().file(t)); return f.Tree().Nodes() }
	before := tellNodes(nodes())
	h, _, _ := check.Open(whole().file(t))
	for range 3 {
		for _, n := range h.Tree().Nodes() {
			for i := range n.Pairs {
				spoil(n.Pairs[i].Key)
				spoil(n.Pairs[i].Value)
				spoilList(n.Chains[i])
			}
			for i := range n.Seps {
				spoil(n.Seps[i])
			}
			spoilList(n.Kids)
		}
		if tellNodes(h.Tree().Nodes()) != before {
			t.Fatal("the tree shows what was written into its nodes")
		}
	}
}

// TestP15_3Apart: two files that were opened, and the same one twice, never see one another.
func TestP15_3Apart(t *testing.T) {
	a, b := whole().file(t), deep().file(t)
	f, _, _ := check.Open(a)
	g, _, _ := check.Open(b)
	h, _, _ := check.Open(a)
	sf, sg := saying(f), saying(g)
	check.Check(b)
	check.Check(b[:5000])
	if saying(f) != sf || saying(g) != sg || saying(h) != sf || f == h {
		t.Error("a file says something else behind another one")
	}
}
