package store_test

import (
	"fmt"
	"maps"
	"math"
	"slices"
	"strings"
	"testing"

	"coppice/api"
	"coppice/store"
)

// TestP19_6Pins: any number of views of one version: its pages are kept till the last one is closed.
func TestP19_6Pins(t *testing.T) {
	b := newBench(t, 60, 2, blank(t, 60).Durable())
	b.put("a", fill(20000, 1)) // 5 pages and the leaf
	b.commit()
	for range 3 {
		b.view()
	}
	b.put("a", "short")
	b.commit() // 6 numbers are free
	least := b.s.Room()
	for i := range 3 {
		if b.s.Room() != least {
			t.Errorf("%d views are closed: room %d, not %d", i, b.s.Room(), least)
		}
		b.close(0)
	}
	if b.s.Room() != least+6 {
		t.Errorf("all are closed: room %d, not %d", b.s.Room(), least+6)
	}
}

// TestP19_6Older: what an older version needs a younger view's closing doesn't free.
func TestP19_6Older(t *testing.T) {
	b := newBench(t, 60, 2, blank(t, 60).Durable())
	for i := range 6 {
		b.put("a", fill(5000, i))
		b.commit()
		b.view()
	}
	for _, i := range []int{5, 2, 3, 0, 1, 0} { // alike asks for the room behind each one
		b.close(i)
		for _, x := range b.views {
			b.tells(x)
		}
		b.put("a", fill(5000, 100+i))
		b.commit()
	}
}

// TestP19_6Base: a view is one of the base, not of the working tree.
func TestP19_6Base(t *testing.T) {
	b := newBench(t, 300, 2, rich(t))
	for key := range maps.Clone(b.work) {
		b.delete(key)
	}
	b.put("n", "new")
	x := b.view()
	b.tells(x)
	b.read(x, "n")
	b.commit()
	b.read(x, "n")
	b.tells(x)
	y := b.view()
	b.rollback()
	b.tells(y)
	b.tells(x)
	if x.v.Version()+1 != y.v.Version() {
		t.Errorf("the versions %d and %d", x.v.Version(), y.v.Version())
	}
}

// TestP19_7Asked: any arguments, of trees of all heights from none on.
func TestP19_7Asked(t *testing.T) {
	t.Parallel()
	long := strings.Repeat("k", api.MaxKey)
	for _, file := range [][]byte{blank(t, 9).Durable(), atVersion(t, 7), rich(t), high(t)} {
		for _, frames := range []int{1, 3, api.MaxFrames} {
			b := newBench(t, 2000, frames, file)
			x := b.view()
			b.tells(x)
			for _, key := range []string{"", "\x00", "a", "bb", "z", "\xff", long, long + "k", strings.Repeat("k", 9999)} {
				b.read(x, key)
				b.rank(x, key)
				for _, hi := range []string{"", "a", "c", long + "k"} {
					for _, limit := range []int{-1, 0, 1, 9, all, math.MaxInt, math.MinInt} {
						b.span(x, key, hi, limit)
					}
				}
			}
			for _, i := range []int{-1, 0, len(x.says) - 1, len(x.says), math.MinInt, math.MaxInt} {
				b.nth(x, i)
			}
		}
	}
}

// high is a file whose tree has three levels: its keys are long, and few share much.
func high(t *testing.T) []byte {
	t.Helper()
	b := newBench(t, 2000, 1, blank(t, 2000).Durable())
	next := noise(3)
	for range 200 {
		k := next(90)
		key := string([]byte{byte(k * 37), byte(k)}) + strings.Repeat("x", 252) + string([]byte{byte(next(30))})
		if err := b.s.Put([]byte(key), []byte(fill(512, k))); err != api.OK {
			t.Fatalf("Put: %d", err)
		}
	}
	if err := b.s.Commit(); err != api.OK || b.s.State().Height < 3 {
		t.Fatalf("Commit: %d, %+v", err, b.s.State())
	}
	return b.d.Durable()
}

// closed asks that a view answers what a closed one does, whatever it is asked.
func closed(t *testing.T, v *store.View) {
	t.Helper()
	for _, key := range [][]byte{nil, []byte("a"), make([]byte, 300)} {
		if value, has, err := v.Get(key); len(value) > 0 || has || err != api.ErrClosed {
			t.Errorf("Get: %d", err)
		}
		if n, err := v.Rank(key); n != 0 || err != api.ErrClosed {
			t.Errorf("Rank: %d", err)
		}
	}
	for _, i := range []int{-1, 0, 5} {
		if l, err := v.Scan(nil, nil, i); len(l) > 0 || err != api.ErrClosed {
			t.Errorf("Scan: %d", err)
		}
		if p, err := v.Nth(i); len(p.Key) > 0 || len(p.Value) > 0 || err != api.ErrClosed {
			t.Errorf("Nth: %d", err)
		}
	}
	if v.Version() != 0 || v.Close() {
		t.Error("it has a version, or can be closed")
	}
}

// TestP19_7Closed: a closed view, other views of its version, and no page that is read for it.
func TestP19_7Closed(t *testing.T) {
	t.Parallel()
	for _, file := range [][]byte{rich(t), blank(t, 9).Durable()} {
		b := newBench(t, 300, 2, file)
		x, y := b.view(), b.view()
		b.close(0)
		closed(t, x.v)
		b.alike("a closed view")
		b.tells(y)
		b.put("a", "b")
		b.commit()
		b.tells(y)
		closed(t, x.v)
		b.close(0)
		closed(t, y.v)
		b.alike("a closed view")
		b.tells(b.view())
	}
}

// TestP19_7Reused: the numbers of a view that was closed are written on: what the cache held of them no later view is told.
func TestP19_7Reused(t *testing.T) {
	b := newBench(t, 40, api.MaxFrames, blank(t, 40).Durable())
	reused := 0
	seen := map[int]int{}
	for i := range 40 {
		b.put("a", fill(600+i%3*4000, i))
		b.put(fmt.Sprint("b", i%4), fill(i, i))
		b.commit()
		x := b.view()
		for no := range x.pages {
			if seen[no]++; seen[no] > 1 {
				reused++
			}
		}
		b.tells(x)
		if len(b.views) == 3 {
			b.close(i % 3)
		}
		for _, x := range b.views {
			b.tells(x)
		}
	}
	if reused < 20 {
		t.Errorf("only %d numbers were used again", reused)
	}
}

// TestP19_4Held: what a Commit has not written stays in the cache: it is not read again.
func TestP19_4Held(t *testing.T) {
	t.Parallel()
	b := newBench(t, 2000, api.MaxFrames, high(t))
	x := b.view()
	b.tells(x)
	reads := b.d.Reads()
	for i := range 5 {
		b.put(fmt.Sprint("n", i), fill(600, i))
		b.commit()
		b.tells(x)
	}
	if b.d.Reads() != reads {
		t.Errorf("%d pages were read again", b.d.Reads()-reads)
	}
	y := b.view()
	b.tells(y)
	if n := b.d.Reads() - reads; n == 0 || n > 40 {
		t.Errorf("%d pages were read for what is new", n)
	}
}

// TestP19_4Lists: a page of frees is written where a page of the tree stood that the cache holds still: it is dropped, too, and takes no frame from others.
func TestP19_4Lists(t *testing.T) {
	t.Parallel()
	next := noise(194)
	for frames := 4; frames < 9; frames++ {
		b := newBench(t, 90, frames, blank(t, 90).Durable())
		dropped := 0
		for range 150 {
			for range 1 + next(3) {
				b.put(string(rune('a'+next(24))), fill(450, next(256)))
			}
			held := b.twin.cache.Held()
			b.commit()
			for _, no := range b.twin.base.Lists() {
				if slices.Contains(held, no) {
					dropped++
				}
			}
			x := b.view()
			for range 6 {
				b.read(x, string(rune('a'+next(24))))
			}
			if len(b.views) > next(2) {
				b.close(next(len(b.views)))
			}
		}
		if dropped == 0 {
			t.Errorf("%d frames: no page of frees was ever held", frames)
		}
	}
}

// TestP19_7Rot: what decays is told by the view that reads it, and the store goes on.
func TestP19_7Rot(t *testing.T) {
	b := newBench(t, 300, 1, rich(t))
	x := b.view()
	root := b.twin.base.Head().Root
	b.d.Rot(root, 7, 1)
	for range 2 {
		if value, has, err := x.v.Get([]byte("a")); len(value) > 0 || has || err != api.ErrSum {
			t.Errorf("Get: %v, %d", has, err)
		}
		if l, err := x.v.Scan(nil, nil, 5); len(l) > 0 || err != api.ErrSum {
			t.Errorf("Scan: %d", err)
		}
		if n, err := x.v.Rank(nil); n != 0 || err != api.ErrSum {
			t.Errorf("Rank: %d", err)
		}
		if p, err := x.v.Nth(0); len(p.Key) > 0 || err != api.ErrSum {
			t.Errorf("Nth: %d", err)
		}
		if l, err := b.s.Scan(nil, nil, all); err != api.OK || len(l) != len(b.work) || x.v.Version() != x.version {
			t.Errorf("the store: %d", err)
		}
	}
	b.d.Rot(root, 7, 1)
	for range 8 { // each call of the view has read it once
		b.twin.d.Read(root)
	}
	b.tells(x)
}

// TestP19_15Reads: of the longest value, through one frame: the way to it, and 65 pages.
func TestP19_15Reads(t *testing.T) {
	t.Parallel()
	for _, file := range [][]byte{blank(t, 9).Durable(), rich(t), high(t)} {
		b := newBench(t, 2000, 1, file)
		b.put("m", fill(api.MaxValue, 1))
		b.commit()
		x := b.view()
		if x.height != b.s.State().Height {
			t.Fatalf("the height %d", x.height)
		}
		for _, key := range []string{"m", "m"} {
			before := b.d.Reads()
			b.read(x, key)
			if n := b.d.Reads() - before; n != x.height+65 {
				t.Errorf("height %d: %d pages are read", x.height, n)
			}
		}
		for _, key := range slices.Sorted(maps.Keys(x.says)) {
			b.read(x, key)
		}
	}
}
