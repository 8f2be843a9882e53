package leaf_test

import (
	"bytes"
	"slices"
	"testing"

	"coppice/api"
	"coppice/leaf"
)

func TestP4_4ThereAndBack(t *testing.T) {
	next := noise(46)
	lists := likely()
	for range 2000 {
		lists = append(lists, anyItems(next, 1+next(40)))
	}
	fitting := 0
	for _, items := range lists {
		body, err := leaf.Encode(items)
		if err != api.OK {
			continue
		}
		fitting++
		back, err := leaf.Decode(body)
		if err != api.OK || !same(back, items) {
			t.Errorf("Decode of Encode(%s): %d,%s", tell(items), err, tell(back))
		}
	}
	if fitting < 1000 {
		t.Errorf("only %d lists had a body", fitting)
	}
}

func TestP4_4BackAndThere(t *testing.T) {
	next := noise(47)
	decoded := 0
	for _, items := range likely() {
		body := mustEncode(t, items)
		for range 400 {
			b := bytes.Clone(body)
			b[next(leaf.Size(items))] = byte(next(256))
			back, err := leaf.Decode(b)
			if err != api.OK {
				continue
			}
			decoded++
			if again, err := leaf.Encode(back); err != api.OK || !bytes.Equal(again, b) {
				t.Errorf("Encode of Decode(%x): %d", b[:40], err)
			}
		}
	}
	if decoded < 1000 {
		t.Errorf("only %d bodies were decoded", decoded)
	}
}

func TestP4_4UnlikeItemsHaveUnlikeBodies(t *testing.T) {
	lists := likely()
	// Each of these differs from one of the others in one thing alone.
	lists = append(lists,
		[]api.Item{inline("a", "y")},
		[]api.Item{inline("b", "x")},
		[]api.Item{inline("a", "x\x00")},
		[]api.Item{inline("a", "\x00")},
		[]api.Item{inline("a", "\x00\x00")},
		[]api.Item{inline("a\x00", "")},
		[]api.Item{chained("k", 601, 9)},
		[]api.Item{chained("k", 600, 10)},
		[]api.Item{chained("k", 600, 9+256)},
		[]api.Item{inline("a", ""), inline("b", "")},
	)
	seen := map[string][]api.Item{}
	for _, items := range lists {
		body := string(mustEncode(t, items))
		if other, ok := seen[body]; ok && !same(items, other) {
			t.Errorf("one body of%s and of%s", tell(items), tell(other))
		}
		seen[body] = items
	}
}

func TestP4_5LeftOutIsSmaller(t *testing.T) {
	next := noise(48)
	lists := likely()
	for range 500 {
		lists = append(lists, anyItems(next, 1+next(20)))
	}
	// The common beginning grows most where all items but one are left out, or the one that is unlike the others.
	for _, p := range []int{1, 126, 127, 128, 254, 255, 300, 16384} {
		lists = append(lists,
			[]api.Item{inline(xs(p), ""), inline("a", "")},
			[]api.Item{inline("a", ""), inline(xs(p), ""), inline(xs(p)+"y", "")},
			[]api.Item{inline("", ""), inline(xs(p), "")},
			[]api.Item{inline(xs(p), ""), inline(xs(p), "")},
			[]api.Item{chained(xs(p), -1, 0), chained(xs(p)+"y", 1<<40, 0)})
	}
	for _, items := range lists {
		whole := leaf.Size(items)
		for i := range items {
			less := slices.Delete(slices.Clone(items), i, i+1)
			if n := leaf.Size(less); n >= whole {
				t.Errorf("Size(%s) = %d, and without the item at %d %d", tell(items), whole, i, n)
			}
		}
		for range 20 {
			less := slices.DeleteFunc(slices.Clone(items), func(api.Item) bool { return next(2) == 0 })
			if n := leaf.Size(less); len(less) < len(items) && n >= whole {
				t.Errorf("Size(%s) = %d, and of%s %d", tell(items), whole, tell(less), n)
			}
		}
	}
}

func TestP4_5WhatIsUsed(t *testing.T) {
	for _, items := range likely() {
		body, size := mustEncode(t, items), leaf.Size(items)
		if len(bytes.Trim(body[size:], "\x00")) != 0 {
			t.Errorf("the body of%s has something behind its %d bytes", tell(items), size)
		}
		p := len(plainPrefix(items))
		slots := 3 + len(plainV(uint64(p))) + p
		at := slots + 2*(len(items)-1)
		last := int(body[at]) + 256*int(body[at+1])
		if cell := plainCell(items[len(items)-1], p); last+len(cell) != size || !bytes.Equal(body[last:size], cell) {
			t.Errorf("the last cell of%s does not end at %d", tell(items), size)
		}
	}
}
