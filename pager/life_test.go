package pager_test

import (
	"bytes"
	"fmt"
	"slices"
	"testing"

	"coppice/api"
	"coppice/pager"
	"coppice/pool"
	"coppice/tree"
)

// spoil writes over a list, and over its spare room.
func spoil(l []int) {
	_ = append(l, 77, 78, 79)
	l = l[:cap(l)]
	for i := range l {
		l[i] += 101
	}
}

// TestP18_6Memory: each list is new memory, and a base never changes.
func TestP18_6Memory(t *testing.T) {
	w, x := small(t)
	c := w.again(t)
	for _, b := range []*pager.Base{w.b, c.b} { // by Commit, and by Load
		want := tellBase(b)
		gone := slices.Clone(b.Gone(x))
		for range 3 {
			lists := [][]int{b.Free(), b.Lists(), b.Gone(x), b.Free(), b.Lists(), b.Gone(x), b.Gone(tree.Empty())}
			for i, l := range lists {
				var others [][]int
				for _, o := range lists {
					others = append(others, slices.Clone(o[:cap(o)]))
				}
				spoil(l)
				for k, o := range lists {
					if k != i && !slices.Equal(o[:cap(o)], others[k]) {
						t.Fatalf("the list %d shows what was written into the list %d", k, i)
					}
				}
			}
			if tellBase(b) != want || !slices.Equal(b.Gone(x), gone) {
				t.Fatal("the base shows what was written into a list")
			}
		}
	}
	before, told := tellBase(w.b), tellTree(x)
	b := w.b
	w.commit(t, x)
	if tellBase(b) != before || tellTree(x) != told {
		t.Error("the Commit changed the base or the tree")
	}
	now := tellBase(w.b)
	w.p.Pin(1)
	w.commit(t, with(t, w.b.Tree(), "d", nil))
	if tellBase(b) != before || tellBase(b) == now {
		t.Error("a later Commit changed a base")
	}
}

// TestP18_8Lives: commits one behind the other, with versions that are pinned meanwhile: the pages are those that the pool gives out, the file is accepted, and says the map.
func TestP18_8Lives(t *testing.T) {
	for i, sizes := range [][]int{{0, 3, 40}, {400, 512}, {0, 513, 4086, 9000}} {
		t.Run(fmt.Sprint(sizes), func(t *testing.T) {
			t.Parallel()
			next := noise(uint64(1880 + i))
			w := formatted(t, 150)
			twin := pool.New(2, 150, nil)
			full := 0
			var pins []int
			for range 60 {
				if v := w.b.Head().Version; next(3) == 0 {
					pins = append(pins, v)
					w.p.Pin(v)
					twin.Pin(v)
				} else if len(pins) > 2 {
					w.p.Unpin(pins[0])
					twin.Unpin(pins[0])
					pins = pins[1:]
				}
				x := changed(w.b.Tree(), next, 1+next(12), sizes)
				if !step(t, w, x, twin) {
					full++
				}
				if tellPool(w.p) != tellPool(twin) {
					t.Fatalf("the pool: %s, not %s", tellPool(w.p), tellPool(twin))
				}
			}
			if i == 2 && full == 0 {
				t.Error("there was always room")
			}
		})
	}
}

// step commits a tree, if there is room for it, and asks for what was planned.
func step(t *testing.T, w *world, x *tree.Tree, twin *pool.Pool) bool {
	t.Helper()
	need := plainNeed(w.b, x, twin)
	done, before := w.d.Done(), tellBase(w.b)
	if got := w.b.Need(x, w.p); got != need {
		t.Fatalf("need %d, not %d", got, need)
	}
	b, err := w.b.Commit(w.d, x, w.p)
	switch {
	case need > twin.Room():
		if b != nil || err != api.ErrFull || w.d.Done() != done {
			t.Fatalf("need %d, room %d: %d", need, twin.Room(), err)
		}
		return false
	case need == 0:
		if b != w.b || err != api.OK || w.d.Done() != done {
			t.Fatalf("nothing is needed: %d", err)
		}
		return true
	case err != api.OK || w.d.Done() != done+need+4:
		t.Fatalf("need %d, room %d: %d, %d Writes and Syncs", need, twin.Room(), err, w.d.Done()-done)
	}
	want := planned(t, w.b, x, twin)
	if tellBase(b) != want.base || tellFile(t, w.d.Durable()) != want.base || tellBase(w.b) != before {
		t.Fatal("the new base is not what was asked for")
	}
	w.b = b
	return true
}

// TestP18_8Pinned: while a version is pinned none of its pages is written on.
func TestP18_8Pinned(t *testing.T) {
	t.Parallel()
	next := noise(188)
	w := formatted(t, 800)
	w.commit(t, changed(w.b.Tree(), next, 50, []int{3, 500, 600}))
	pinned := w.b
	w.p.Pin(pinned.Head().Version)
	was := map[int][]byte{}
	for _, no := range pinned.Tree().Numbers() {
		was[no], _ = w.d.Read(no)
	}
	for range 15 {
		w.commit(t, changed(w.b.Tree(), next, 10, []int{3, 500, 600}))
		for no, b := range was {
			if now, _ := w.d.Read(no); !bytes.Equal(now, b) {
				t.Fatalf("the page %d of a pinned version was written on", no)
			}
		}
	}
	w.p.Unpin(pinned.Head().Version)
	written := 0
	for range 3 {
		w.commit(t, changed(w.b.Tree(), next, 10, []int{3, 500, 600}))
	}
	for no, b := range was {
		if now, _ := w.d.Read(no); !bytes.Equal(now, b) {
			written++
		}
	}
	if written == 0 {
		t.Error("no page of a version that is pinned no longer was used again")
	}
}
