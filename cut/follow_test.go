package cut_test

import (
	"bytes"
	"slices"
	"strings"
	"testing"

	"coppice/api"
	"coppice/branch"
	"coppice/cut"
	"coppice/leaf"
)

// some are the elements of a list that noise leaves in it, in their order.
func some[T any](next func(int) int, l []T) []T {
	of := 2 + next(5)
	return slices.DeleteFunc(slices.Clone(l), func(T) bool { return next(of) == 0 })
}

func TestP9_6SomeItemsAreSmaller(t *testing.T) {
	next := noise(96)
	for _, items := range likely() {
		whole := leaf.Size(items)
		for range 20 {
			if part := some(next, items); len(part) < len(items) && leaf.Size(part) >= whole {
				t.Errorf("%d items of %s have %d bytes, all of them %d", len(part), tellItems(items), leaf.Size(part), whole)
			}
		}
		// What is left out may be what kept the others from beginning alike.
		for _, i := range []int{0, 1, len(items) - 1} {
			if i >= 0 && i < len(items) && leaf.Size(slices.Delete(slices.Clone(items), i, i+1)) >= whole {
				t.Errorf("%s are not smaller without the one at %d", tellItems(items), i)
			}
		}
	}
}

func TestP9_6SomeSeparatorsAreSmaller(t *testing.T) {
	next := noise(97)
	for _, seps := range likelySeps() {
		whole := branch.Size(seps)
		for range 20 {
			if part := some(next, seps); len(part) < len(seps) && branch.Size(part) >= whole {
				t.Errorf("%d of the separators %s have %d bytes, all of them %d", len(part), tell(seps), branch.Size(part), whole)
			}
		}
		for _, i := range []int{0, 1, len(seps) - 1} {
			if i >= 0 && i < len(seps) && branch.Size(slices.Delete(slices.Clone(seps), i, i+1)) >= whole {
				t.Errorf("%s are not smaller without the one at %d", tell(seps), i)
			}
		}
	}
}

// So what can be joined can be joined with fewer, too, and the parts of a cut are smaller than what was cut.
func TestP9_6WhatIsSmallerFitsToo(t *testing.T) {
	next := noise(98)
	for _, items := range likely() {
		half := len(items) / 2
		a, b := items[:half], items[half:]
		if cut.JoinLeaves(a, b) && !cut.JoinLeaves(some(next, a), some(next, b)) {
			t.Errorf("%s can be joined, and some of them can't", tellItems(items))
		}
		if i := cut.Leaf(items); i > 0 && max(leaf.Size(items[:i]), leaf.Size(items[i:])) >= leaf.Size(items) {
			t.Errorf("the parts of %s are not smaller", tellItems(items))
		}
		c, d := keysOf(a), keysOf(b)
		if cut.JoinBranches(c, []byte("k"), d) && !cut.JoinBranches(some(next, c), []byte("k"), some(next, d)) {
			t.Errorf("%s can be joined, and some of them can't", tell(c))
		}
	}
}

// brimful takes from a list, one after the other, all that still fit with those that were taken.
func brimful[T any](l []T, fits func([]T) bool) []T {
	var out []T
	for _, x := range l {
		if more := append(out, x); fits(more) {
			out = more
		}
	}
	return out
}

// fullLeaves are lists of items that may be and fit, most of them with no room for one more.
func fullLeaves() [][]api.Item {
	fits := func(l []api.Item) bool { return plainLeafSize(sorted(slices.Clone(l))) <= 4092 }
	l := [][]api.Item{letters(8, 500), letters(7, 512), crowd(467), outliers(300, 0, 0), outliers(18, 1, 0), outliers(18, 0, 1)}
	next := noise(71)
	for range 60 {
		s := anyShape(next)
		most := s.items(next, 80+next(300))
		l = append(l, sorted(brimful(shuffled(next, most), fits)))
	}
	return l
}

// fullBranches are separators that rise and fit, most of them with no room for one more.
func fullBranches() [][][]byte {
	fits := func(l [][]byte) bool { return plainBranchSize(l) <= 4092 }
	var l [][][]byte
	for _, seps := range [][][]byte{list(behind(254, "ABCDEFGHIJKLMNOP")...), keysOf(outliers(500, 0, 0)), keysOf(outliers(500, 1, 0)), keysOf(outliers(18, 0, 1)), keysOf(crowd(200))} {
		l = append(l, brimful(seps, fits))
	}
	next := noise(72)
	for range 60 {
		s := anyShape(next)
		l = append(l, brimful(s.seps(next, 60+next(300)), fits))
	}
	return l
}

// newcomers are keys that belong everywhere among keys: ahead of all, behind all, right behind one, right ahead of one, short and as long as may be.
func newcomers(next func(int) int, keys [][]byte) [][]byte {
	l := list("\x00", "\x01", "a", "b", "z", "\xff", strings.Repeat("\x00", 255), strings.Repeat("\xff", 255), "p", strings.Repeat("p", 255))
	n := len(keys)
	for _, i := range []int{0, 1 % n, n / 2, n - 1, next(n), next(n), next(n), next(n)} {
		k := keys[i]
		room := 255 - len(k)
		last := bytes.Clone(k)
		last[len(last)-1]--
		l = append(l,
			append(bytes.Clone(k), make([]byte, min(room, 1))...),
			append(bytes.Clone(k), make([]byte, room)...),
			append(bytes.Clone(k), bytes.Repeat([]byte{0xff}, room)...),
			append(last, bytes.Repeat([]byte{0xff}, room)...),
			bytes.Clone(k[:1+next(len(k))]))
	}
	return l
}

// wantLeafCut asks that items that do not fit are cut into two parts that do; it tells whether they do not.
func wantLeafCut(t *testing.T, items []api.Item) bool {
	t.Helper()
	if plainLeafSize(items) <= 4092 {
		return false
	}
	i := cut.Leaf(items)
	if i < 1 || i >= len(items) {
		t.Errorf("Leaf of %s = %d", tellItems(items), i)
		return true
	}
	if a, b := plainLeafSize(items[:i]), plainLeafSize(items[i:]); a > 4092 || b > 4092 {
		t.Errorf("Leaf of %s = %d: parts of %d and %d bytes", tellItems(items), i, a, b)
	}
	return true
}

func TestP9_7OneMoreItem(t *testing.T) {
	next := noise(73)
	cuts := 0
	for _, items := range fullLeaves() {
		if plainLeafSize(items) > 4092 {
			t.Fatalf("%s do not fit", tellItems(items))
		}
		for _, key := range newcomers(next, keysOf(items)) {
			for _, size := range []int{0, 512, 262144} {
				more := sorted(append(slices.Clone(items), sized(string(key), size)))
				if len(more) > len(items) && wantLeafCut(t, more) {
					cuts++
				}
			}
		}
	}
	if cuts < 2000 {
		t.Errorf("only %d did not fit", cuts)
	}
}

func TestP9_7OneItemReplaced(t *testing.T) {
	next := noise(74)
	cuts := 0
	for _, items := range fullLeaves() {
		n := len(items)
		for _, i := range []int{0, 1 % n, n / 2, n - 1, next(n), next(n), next(n), next(n), next(n)} {
			for _, size := range []int{0, 64, 512, 513} {
				other := slices.Clone(items)
				other[i] = sized(string(items[i].Key), size)
				if wantLeafCut(t, other) {
					cuts++
				}
			}
		}
	}
	if cuts < 500 {
		t.Errorf("only %d did not fit", cuts)
	}
}

func TestP9_7OneMoreSeparator(t *testing.T) {
	next := noise(75)
	cuts := 0
	for _, seps := range fullBranches() {
		if plainBranchSize(seps) > 4092 {
			t.Fatalf("%s do not fit", tell(seps))
		}
		for _, key := range newcomers(next, seps) {
			more := append(slices.Clone(seps), key)
			slices.SortFunc(more, bytes.Compare)
			more = slices.CompactFunc(more, bytes.Equal)
			if len(more) == len(seps) || plainBranchSize(more) <= 4092 {
				continue
			}
			cuts++
			kids, i := len(more)+1, cut.Branch(more)
			if i < 2 || kids-i < 2 {
				t.Errorf("Branch of %s = %d, of %d kids", tell(more), i, kids)
				continue
			}
			if a, b := plainBranchSize(more[:i-1]), plainBranchSize(more[i:]); a > 4092 || b > 4092 {
				t.Errorf("Branch of %s = %d: parts of %d and %d bytes", tell(more), i, a, b)
			}
		}
	}
	if cuts < 1000 {
		t.Errorf("only %d did not fit", cuts)
	}
}

func TestP9_8PartsOfALeafCannotBeJoined(t *testing.T) {
	next := noise(76)
	lists := append(likely(), loose()...)
	for _, items := range fullLeaves() {
		lists = append(lists, sorted(append(slices.Clone(items), sized(string(newcomers(next, keysOf(items))[next(50)]), 512))))
	}
	cuts := 0
	for _, items := range lists {
		i := cut.Leaf(items)
		if i == 0 || plainLeafSize(items) <= 4092 {
			continue
		}
		cuts++
		if cut.JoinLeaves(items[:i], items[i:]) {
			t.Errorf("the parts of %s, cut at %d, can be joined", tellItems(items), i)
		}
	}
	if cuts < 150 {
		t.Errorf("only %d cuts", cuts)
	}
}

func TestP9_8PartsOfABranchCannotBeJoined(t *testing.T) {
	next := noise(77)
	lists := append(likelySeps(), looseSeps()...)
	for _, seps := range fullBranches() {
		more := append(slices.Clone(seps), newcomers(next, seps)[next(50)])
		slices.SortFunc(more, bytes.Compare)
		lists = append(lists, more)
	}
	cuts := 0
	for _, seps := range lists {
		i := cut.Branch(seps)
		if i == 0 || plainBranchSize(seps) <= 4092 {
			continue
		}
		cuts++
		if cut.JoinBranches(seps[:i-1], seps[i-1], seps[i:]) {
			t.Errorf("the parts of %s, cut at %d, can be joined", tell(seps), i)
		}
	}
	if cuts < 150 {
		t.Errorf("only %d cuts", cuts)
	}
}

// Only of a whole that did not fit: the parts of a small one can be joined again.
func TestP9_8PartsOfASmallWholeCanBeJoined(t *testing.T) {
	five := letters(5, 500)
	if i := cut.Leaf(five); i != 2 || !cut.JoinLeaves(five[:i], five[i:]) {
		t.Errorf("five items are cut at %d", i)
	}
	seps := list("a", "b", "c")
	if i := cut.Branch(seps); i != 2 || !cut.JoinBranches(seps[:i-1], seps[i-1], seps[i:]) {
		t.Errorf("three separators are cut at %d", i)
	}
}
