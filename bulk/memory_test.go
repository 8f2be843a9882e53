package bulk_test

import (
	"bytes"
	"slices"
	"testing"

	"coppice/api"
	"coppice/bulk"
)

// spoil writes over bytes, and over their spare room.
func spoil(b []byte) {
	b = b[:cap(b)]
	for i := range b {
		b[i] += 101
	}
}

// roomy are bytes with spare room behind them.
func roomy(b []byte) []byte { return append(slices.Clone(b), 0x55, 0x55, 0x55)[:len(b)] }

// handed is a list as it may be handed in, with spare room everywhere.
func handed(l []api.Pair) []api.Pair {
	var in []api.Pair
	for _, p := range l {
		in = append(in, api.Pair{Key: roomy(p.Key), Value: roomy(p.Value)})
	}
	return append(in, pair("spare", 9))[:len(l)]
}

// sameHanded asks whether a list that was handed in is as it was.
func sameHanded(t *testing.T, what string, in, was []api.Pair) {
	t.Helper()
	spare := []byte{0x55, 0x55, 0x55}
	for i, p := range in {
		if !bytes.Equal(p.Key[:len(p.Key)+3], append(slices.Clone(was[i].Key), spare...)) || !bytes.Equal(p.Value[:len(p.Value)+3], append(slices.Clone(was[i].Value), spare...)) {
			t.Errorf("%s: the pair %d has changed", what, i)
		}
	}
	if last := in[:len(in)+1][len(in)]; len(in) != len(was) || string(last.Key) != "spare" || len(last.Value) != 9 {
		t.Errorf("%s: the spare room has changed", what)
	}
}

// spoilPairs writes over all of a list.
func spoilPairs(in []api.Pair) {
	for _, p := range in {
		spoil(p.Key)
		spoil(p.Value)
	}
	clear(in[:cap(in)])
}

// TestP21_5Build: pairs are as they were, and the tree has nothing of them.
func TestP21_5Build(t *testing.T) {
	next := noise(215)
	for _, w := range woods() {
		l := w.some(next, w.pairs/4)
		in := handed(l)
		u, err := bulk.Build(in)
		if err != api.OK {
			t.Fatalf("%s: %d", w.name, err)
		}
		sameHanded(t, w.name, in, l)
		spoilPairs(in)
		if told(u.Nodes()) != told(plainNodes(l)) {
			t.Errorf("%s: the tree shows what was written over the pairs later", w.name)
		}
	}
}

// TestP21_5Apart: two trees of one list have nothing in common, and what one tells is new memory each time.
func TestP21_5Apart(t *testing.T) {
	l := append(letters(20, 500), pair("z", 9000))
	want := told(plainNodes(l))
	a, _ := bulk.Build(l)
	b, _ := bulk.Build(l)
	for _, n := range a.Nodes() {
		spoilPairs(n.Pairs)
		for _, s := range n.Seps {
			spoil(s)
		}
		clear(n.Kids[:cap(n.Kids)])
	}
	if told(a.Nodes()) != want || told(b.Nodes()) != want {
		t.Error("a tree shows what was written into its nodes")
	}
	c, _ := a.With([]byte("a"), []byte("new"))
	if d, _ := b.Without([]byte("b")); c.Len() != 21 || d.Len() != 20 || told(a.Nodes()) != want || told(b.Nodes()) != want {
		t.Error("one tree shows what became of another")
	}
}

// TestP21_5Refused: pairs that are refused are as they were, too.
func TestP21_5Refused(t *testing.T) {
	for _, l := range [][]api.Pair{{pair("b", 1), pair("a", 2)}, {pair("a", 1), pair("", 5)}, {pair("a", 262145)}} {
		in := handed(l)
		bulk.Build(in)
		bulk.Load(newDisk(t, 9), in)
		sameHanded(t, "refused", in, l)
	}
	in := handed(letters(9, 500))
	bulk.Load(newDisk(t, 4), in)
	bulk.Load(image(t, 9, emptyFile(t)), in)
	sameHanded(t, "no room", in, letters(9, 500))
}

// TestP21_5Load: pairs are as they were, and the disk has nothing of them.
func TestP21_5Load(t *testing.T) {
	next := noise(2150)
	for _, w := range woods() {
		l := w.some(next, w.pairs/5)
		in, d := handed(l), newDisk(t, 5000)
		if err := bulk.Load(d, in); err != api.OK {
			t.Fatalf("%s: %d", w.name, err)
		}
		sameHanded(t, w.name, in, l)
		spoilPairs(in)
		holds(t, w.name, d, plainFile(t, l))
	}
}

// TestP21_5Compact: a file is as it was, its spare room too, whether it is accepted or not, and the disk has nothing of it.
func TestP21_5Compact(t *testing.T) {
	l := append(letters(20, 500), pair("z", 9000))
	broken := plainFile(t, l)
	broken[3*4096] ^= 1
	for i, file := range [][]byte{nil, make([]byte, 5), broken, emptyFile(t), plainFile(t, l)} {
		in, d := roomy(file), newDisk(t, 40)
		_, err := bulk.Compact(in, d)
		if !bytes.Equal(in[:len(file)+3], append(slices.Clone(file), 0x55, 0x55, 0x55)) {
			t.Errorf("file %d has changed", i)
		}
		spoil(in)
		if err == api.OK {
			holds(t, "compact", d, file)
		}
	}
}

// TestP21_5Again: calls leave nothing behind: the same again answers the same.
func TestP21_5Again(t *testing.T) {
	text := textOf(t, letters(9, 500))
	for range 3 {
		isBuilt(t, "nine", letters(9, 500))
		bulk.Build([]api.Pair{{}})
		isLoaded(t, "nine", 5, letters(9, 500))
		textRefused(t, "cut off", newDisk(t, 9), text[:len(text)-1], 10, api.ErrText)
		compactIs(t, "nine", plainFile(t, letters(9, 500)), letters(9, 500))
	}
}
