package cut_test

import (
	"bytes"
	"slices"
	"testing"

	"coppice/api"
	"coppice/cut"
)

// withRoom copies a list, with three elements in its spare room; the whole of it has them.
func withRoom[T any](l []T, spare T) (copied, whole []T) {
	whole = append(slices.Clone(l), spare, spare, spare)
	return whole[:len(l)], whole
}

// roomy copies byte strings, each with spare room, and tells whether all of them are as they were.
func roomy(l [][]byte) (copied [][]byte, unchanged func() bool) {
	var wholes, were [][]byte
	for _, s := range l {
		c, whole := withRoom(s, 0x55)
		copied, wholes, were = append(copied, c), append(wholes, whole), append(were, bytes.Clone(whole))
	}
	copied, all := withRoom(copied, []byte("spare room"))
	allWere := slices.Clone(all)
	return copied, func() bool {
		return slices.EqualFunc(all, allWere, one) && slices.EqualFunc(wholes, were, bytes.Equal)
	}
}

// roomyItems copies items, all their lists with spare room, and tells whether all of them are as they were.
func roomyItems(items []api.Item) (copied []api.Item, unchanged func() bool) {
	var values [][]byte
	for _, it := range items {
		values = append(values, it.Value)
	}
	keys, keysAre := roomy(keysOf(items))
	values, valuesAre := roomy(values)
	for i, it := range items {
		copied = append(copied, api.Item{Key: keys[i], Value: values[i], Size: it.Size, First: it.First})
	}
	copied, all := withRoom(copied, api.Item{Key: []byte("spare"), Value: []byte("room"), Size: -3, First: -4})
	were := slices.Clone(all)
	return copied, func() bool {
		return slices.EqualFunc(all, were, oneItem) && keysAre() && valuesAre()
	}
}

// one tells whether two lists are one piece of one memory.
func one(a, b []byte) bool {
	if len(a) != len(b) || cap(a) != cap(b) {
		return false
	}
	return cap(a) == 0 || &a[:1][0] == &b[:1][0]
}

// oneItem tells whether two items say the same of the same memory.
func oneItem(a, b api.Item) bool {
	return one(a.Key, b.Key) && one(a.Value, b.Value) && a.Size == b.Size && a.First == b.First
}

func TestP9_5ItemsAreNotChanged(t *testing.T) {
	for _, items := range append(likely(), loose()...) {
		copied, unchanged := roomyItems(items)
		half := len(copied) / 2
		a, aAre := roomyItems(items[:half])
		b, bAre := roomyItems(items[half:])
		cut.Leaf(copied)
		cut.JoinLeaves(a, b)
		cut.JoinLeaves(copied[:half], copied[half:]) // neighbours in one memory: what is behind the first is the second
		cut.JoinLeaves(copied[:half], a)
		if !unchanged() || !aAre() || !bAre() {
			t.Errorf("the items %s were changed, or their spare room", tellItems(items))
		}
	}
}

func TestP9_5SeparatorsAreNotChanged(t *testing.T) {
	for _, seps := range append(likelySeps(), looseSeps()...) {
		copied, unchanged := roomy(seps)
		half := len(copied) / 2
		a, aAre := roomy(seps[:half])
		b, bAre := roomy(seps[half:])
		sep, whole := withRoom([]byte("between"), 0x55)
		were := bytes.Clone(whole)
		cut.Branch(copied)
		cut.JoinBranches(a, sep, b)
		cut.JoinBranches(copied[:half], sep, copied[half:])
		cut.JoinBranches(copied[:half], sep, a)
		if !unchanged() || !aAre() || !bAre() || !bytes.Equal(whole, were) {
			t.Errorf("the separators %s were changed, or their spare room", tell(seps))
		}
	}
}

// One piece of memory handed in twice, and pieces of one memory, answer as lists of their own do.
func TestP9_5ListsMayShareMemory(t *testing.T) {
	five := letters(5, 500)
	if !cut.JoinLeaves(five[:2], five[:3]) || cut.JoinLeaves(five[:3], five[:3]) || cut.JoinLeaves(five, five) {
		t.Error("JoinLeaves of lists that share memory")
	}
	seps := list(behind(199, "ABCDEFGHIJKLMN")...)
	if !cut.JoinBranches(seps[:6], seps[6], seps[:7]) || cut.JoinBranches(seps[:7], seps[6], seps[:7]) {
		t.Error("JoinBranches of lists that share memory")
	}
}

// What was handed in is written over: the next call answers what is there then.
func TestP9_5ItemsAreNotKept(t *testing.T) {
	lists := append(likely(), loose()...)
	for i, items := range lists {
		other := lists[(i+7)%len(lists)]
		n := min(len(items), len(other))
		handed := slices.Clone(items[:n])
		cut.Leaf(handed)
		cut.JoinLeaves(handed[:n/2], handed[n/2:])
		copy(handed, other)
		if got, want := cut.Leaf(handed), plainLeaf(other[:n]); got != want {
			t.Errorf("Leaf of %s in another's place = %d, not %d", tellItems(handed), got, want)
		}
		if got, want := cut.JoinLeaves(handed[:n/2], handed[n/2:]), plainLeafSize(other[:n]) <= 3000; got != want {
			t.Errorf("JoinLeaves of %s in another's place: %v", tellItems(handed), got)
		}
	}
}

func TestP9_5SeparatorsAreNotKept(t *testing.T) {
	lists := append(likelySeps(), looseSeps()...)
	for i, seps := range lists {
		other := lists[(i+7)%len(lists)]
		n := min(len(seps), len(other))
		if n == 0 {
			continue
		}
		handed := slices.Clone(seps[:n])
		cut.Branch(handed)
		cut.JoinBranches(handed[:n/2], handed[n/2], handed[n/2+1:])
		copy(handed, other)
		if got, want := cut.Branch(handed), plainBranch(other[:n]); got != want {
			t.Errorf("Branch of %s in another's place = %d, not %d", tell(handed), got, want)
		}
		if got, want := cut.JoinBranches(handed[:n/2], handed[n/2], handed[n/2+1:]), plainBranchSize(other[:n]) <= 3000; got != want {
			t.Errorf("JoinBranches of %s in another's place: %v", tell(handed), got)
		}
	}
}

func TestP0_4TheSameAnswerAgain(t *testing.T) {
	for _, items := range append(likely(), loose()...) {
		seps, at, kid := keysOf(items), cut.Leaf(items), cut.Branch(keysOf(items))
		for range 3 {
			if cut.Leaf(items) != at || cut.Branch(seps) != kid {
				t.Errorf("%s is cut otherwise the second time", tellItems(items))
			}
		}
	}
}
