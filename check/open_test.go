package check_test

import (
	"bytes"
	"fmt"
	"testing"

	"coppice/api"
	"coppice/check"
	"coppice/tree"
)

// spares are how many pages beside those of a tree a file has.
func spares(x *tree.Tree) []int {
	if x.Fresh() > 10 {
		return []int{0, 2, 5}
	}
	return []int{0, 2, 3, 40, 1022, 1023, 1024, 2045, 2046}
}

// TestP15_2Open: a sound tree that is laid into a file is what the file says, with its numbers, its chains, its frees and its head.
func TestP15_2Open(t *testing.T) {
	eachTree(t, func(t *testing.T, x *tree.Tree, next func(int) int) {
		for _, spare := range spares(x) {
			s, numbered := laid(t, x, next, spare)
			what := fmt.Sprint(spare, " spare pages")
			f := s.is(t, what, 0, api.OK)
			if f == nil {
				return
			}
			var free, lists []int
			for no := s.head().First; no != 0; no = s.pages[no].Next {
				lists, free = append(lists, no), append(free, s.pages[no].List...)
			}
			if says, want := saying(f), tellFile(*s.head(), numbered.Nodes(), free, lists); says != want {
				t.Fatalf("%s: says %.2000s\nnot %.2000s", what, says, want)
			}
			holdsTogether(t, what, f)
			sameMap(t, x, f.Tree())
		}
	})
}

// sameMap asks that a tree has the pairs of another one.
func sameMap(t *testing.T, x, y *tree.Tree) {
	t.Helper()
	if x.Len() != y.Len() || x.Height() != y.Height() {
		t.Fatalf("%d pairs, not %d; height %d, not %d", y.Len(), x.Len(), y.Height(), x.Height())
	}
	for _, n := range x.Nodes() {
		for _, p := range n.Pairs {
			if v, is := y.Get(p.Key); !is || !bytes.Equal(v, p.Value) {
				t.Fatalf("%.40q: %s, %v; not %s", p.Key, tellValue(v), is, tellValue(p.Value))
			}
		}
	}
}

// TestTrees: the trees of these tests are of all heights up to 4, with chains, and with branches of one kid or without.
func TestTrees(t *testing.T) {
	heights := map[int]int{}
	for i, k := range kinds() {
		x := k.grow(noise(uint64(10 * i)))
		heights[x.Height()]++
	}
	for h := 1; h <= 4; h++ {
		if heights[h] == 0 {
			t.Errorf("no tree of height %d", h)
		}
	}
}

// TestP15_2Heads: each field of the head is told.
func TestP15_2Heads(t *testing.T) {
	s := whole()
	for _, v := range []int{1, 3, 1<<40 + 1, api.MaxVersion - 1} {
		s.head().Version = v
		f := s.is(t, "whole", 0, api.OK)
		want := api.Head{Version: v, Count: 12, Root: 10, Height: 2, Keys: 11, First: 8, Free: 2}
		if f.Head() != want {
			t.Errorf("%+v, not %+v", f.Head(), want)
		}
	}
	s.inSlot0(api.MaxVersion)
	if f := s.is(t, "the last version", 0, api.OK); f.Head().Version != api.MaxVersion {
		t.Errorf("version %d", f.Head().Version)
	}
}

// TestP15_2GoesOn: the tree of a file is one that can be changed, and then has new nodes; the file stays.
func TestP15_2GoesOn(t *testing.T) {
	f := whole().is(t, "whole", 0, api.OK)
	says := saying(f)
	x, err := f.Tree().With([]byte("n"), []byte("other"))
	if err != api.OK || x.Fresh() != 2 || saying(f) != says {
		t.Errorf("With: %d, %d new", err, x.Fresh())
	}
	y, had := f.Tree().Without([]byte("d"))
	if !had || y.Fresh() != 2 || y.Len() != 10 || saying(f) != says {
		t.Errorf("Without: %v, %d new", had, y.Fresh())
	}
	g, _, _ := check.Open(newScene().file(t))
	x, err = g.Tree().With([]byte("k"), []byte("v"))
	if err != api.OK || x.Len() != 1 || g.Tree().Len() != 0 {
		t.Errorf("With of an empty file: %d", err)
	}
}
