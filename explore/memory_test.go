package explore_test

import (
	"bytes"
	"fmt"
	"slices"
	"testing"

	"coppice/api"
	"coppice/disk"
	"coppice/explore"
)

// roomy are the same bytes with spare room behind them.
func roomy(b []byte) []byte { return append(bytes.Clone(b), 0x55, 0x55, 0x55)[:len(b)] }

// isRoomy tells whether roomy bytes are as they were made, their spare room too.
func isRoomy(b, was []byte) bool {
	return bytes.Equal(b, was) && string(b[len(b):len(b)+3]) == "UUU"
}

// roomyChanges are the same changes, each list with spare room behind it.
func roomyChanges(l []api.Change) []api.Change {
	var r []api.Change
	for _, c := range l {
		r = append(r, api.Change{Key: roomy(c.Key), Value: roomy(c.Value), Gone: c.Gone})
	}
	return append(r, put("spare", []byte("room")))[:len(l)]
}

// areRoomy tells whether roomy changes are as they were made.
func areRoomy(l, was []api.Change) bool {
	for i, c := range l {
		if !isRoomy(c.Key, was[i].Key) || !isRoomy(c.Value, was[i].Value) || c.Gone != was[i].Gone {
			return false
		}
	}
	spare := l[:len(l)+1][len(l)]
	return string(spare.Key) == "spare" && string(spare.Value) == "room" && !spare.Gone
}

// TestP25_4Args: what is handed in stays as it is, whatever is answered.
func TestP25_4Args(t *testing.T) {
	file := grown(t, []api.Change{put("a", []byte("x")), put("b", fill(600, 1))})
	for i, x := range []struct {
		b     []byte
		room  int
		l     []api.Change
		tears []int
	}{
		{file, 20, []api.Change{put("a", []byte("y")), gone("b"), put("c", nil)}, []int{7, 2000}},
		{file, 20, []api.Change{gone("a")}, nil},
		{file, 20, nil, []int{9}},
		{file, 20, []api.Change{put("a", nil), put("", nil)}, []int{9}},
		{file, 5, []api.Change{put("a", fill(6000, 1))}, []int{9}},
		{file, 90, []api.Change{put("a", fill(60000, 1))}, []int{9}},
		{file, 1, []api.Change{put("a", nil)}, []int{9}},
		{file[:4096], 9, []api.Change{put("a", nil)}, []int{9}},
		{file, 9, []api.Change{put("a", nil)}, []int{9, 0}},
	} {
		b, l := roomy(x.b), roomyChanges(x.l)
		tears := append(slices.Clone(x.tears), 77)[:len(x.tears)]
		first := asked(b, x.room, l, tears)
		if !isRoomy(b, x.b) || !areRoomy(l, x.l) || !slices.Equal(tears, x.tears) || tears[:len(tears)+1][len(tears)] != 77 {
			t.Errorf("row %d: what was handed in has changed", i)
		}
		if second := asked(x.b, x.room, x.l, x.tears); first != second {
			t.Errorf("row %d: %v, and asked again %v", i, first, second)
		}
	}
}

// TestP25_4Kept: nothing is kept: what a caller writes over what was handed in, no later call shows.
func TestP25_4Kept(t *testing.T) {
	file := grown(t, []api.Change{put("a", []byte("x"))})
	l := []api.Change{put("a", []byte("y"))}
	want := asked(file, 20, l, []int{3})
	b, key, value, tears := bytes.Clone(file), []byte("a"), []byte("y"), []int{3}
	asked(b, 20, []api.Change{{Key: key, Value: value}}, tears)
	for i := range b {
		b[i] = 0x77
	}
	key[0], value[0], tears[0] = 'q', 'q', 0
	is(t, "asked again", file, 20, l, []int{3}, want)
}

// TestP25_4Again: whatever was asked before, the answer is the same.
func TestP25_4Again(t *testing.T) {
	next := noise(404)
	b := grown(t, changes(next, 6), changes(next, 3))
	var first []answer
	for round := range 2 {
		for i := range 6 {
			l := changes(noise(uint64(i)), 1)
			got := asked(b, 60, l, []int{4000}[:i%2])
			if round == 0 {
				first = append(first, got)
			} else if got != first[i] {
				t.Errorf("%s: %v, and asked again %v", fmt.Sprint(l), first[i], got)
			}
		}
	}
}

// TestP25_4Odd: what is told of the first crash that left another map is memory of its own.
func TestP25_4Odd(t *testing.T) {
	d, err := disk.Image(9, formatted(t))
	if err != api.OK {
		t.Fatalf("Image: the error %d", err)
	}
	other := []api.Pair{{Key: []byte("a")}}
	once := func(yield func(*disk.Disk) bool) { yield(d) }
	_, _, _, odd := explore.Tally(once, other, other)
	for i := range odd {
		odd[i] ^= 0xff
	}
	if _, _, _, again := explore.Tally(once, other, other); !bytes.Equal(again, formatted(t)) {
		t.Error("what was told shows on the disk")
	}
}
