package meta_test

import (
	"math"
	"testing"

	"coppice/api"
	"coppice/meta"
)

// wantSlot asks that Newer of two versions answers the slot.
func wantSlot(t *testing.T, x, y int, a, b bool, want int) {
	t.Helper()
	if n := meta.Newer(api.Head{Version: x}, api.Head{Version: y}, a, b); n != want {
		t.Errorf("Newer of versions %d and %d, %v, %v: %d, not %d", x, y, a, b, n, want)
	}
}

// versions are even and odd ones, one above the other and far off, from the least int to the greatest.
func versions() []int {
	l := []int{
		math.MinInt, math.MinInt + 1, math.MinInt + 2, -1 << 62, -1<<62 - 1, -1 << 32, -259, -258,
		255, 256, 257, 258, 1<<31 - 1, 1 << 31, 1<<32 - 1, 1 << 32, 1<<32 + 1,
		1<<62 - 2, 1<<62 - 1, 1 << 62, 1<<62 + 1, math.MaxInt - 1, math.MaxInt,
	}
	for version := -9; version <= 9; version++ {
		l = append(l, version)
	}
	return l
}

// plainSlot goes through the slots one after the other; the lowest bit tells what is odd, below 0 too.
func plainSlot(x, y int, a, b bool) int {
	slot, newest := -1, 0
	if a && x&1 == 0 {
		slot, newest = 0, x
	}
	if b && y&1 == 1 && (slot == -1 || y > newest) {
		slot = 1
	}
	return slot
}

func TestP7_3Examples(t *testing.T) {
	wantSlot(t, 4, 3, true, true, 0)
	wantSlot(t, 4, 5, true, true, 1)
	wantSlot(t, 4, 6, true, true, 0)
	wantSlot(t, 3, 5, true, true, 1)
	wantSlot(t, 3, 6, true, true, -1)
	wantSlot(t, 4, 5, true, false, 0)
	wantSlot(t, 4, 5, false, true, 1)
	wantSlot(t, 4, 5, false, false, -1)
}

func TestP7_3Alike(t *testing.T) {
	for _, version := range versions() {
		want := 0
		if version&1 == 1 {
			want = 1
		}
		wantSlot(t, version, version, true, true, want)
		wantSlot(t, version, version, true, false, -want)
		wantSlot(t, version, version, false, true, 2*want-1)
		wantSlot(t, version, version, false, false, -1)
	}
}

func TestP7_3BelowZero(t *testing.T) {
	wantSlot(t, -2, -3, true, true, 0)
	wantSlot(t, -4, -3, true, true, 1)
	wantSlot(t, 4, -3, true, true, 0)
	wantSlot(t, -4, 3, true, true, 1)
	wantSlot(t, -3, -3, true, true, 1)
	wantSlot(t, -3, -4, true, true, -1)
	wantSlot(t, -4, -4, true, true, 0)
	wantSlot(t, 0, -1, true, true, 0)
	wantSlot(t, 0, 1, true, true, 1)
	wantSlot(t, math.MinInt, math.MaxInt, true, true, 1)
	wantSlot(t, math.MaxInt-1, math.MinInt+1, true, true, 0)
	wantSlot(t, math.MinInt, math.MinInt+1, true, true, 1)
	wantSlot(t, math.MinInt, math.MaxInt, true, false, 0)
}

func TestP7_3AllVersions(t *testing.T) {
	for _, x := range versions() {
		for _, y := range versions() {
			for _, a := range []bool{false, true} {
				for _, b := range []bool{false, true} {
					wantSlot(t, x, y, a, b, plainSlot(x, y, a, b))
				}
			}
		}
	}
}

// Whatever the heads say beside their versions, and whether they may be or not, the answer is the same.
func TestP7_3NothingElseIsLookedAt(t *testing.T) {
	next := noise(73)
	others := append(bases(), api.Head{}, head(0, -1, -1, -1, -1, -1, -1), head(0, math.MaxInt, math.MaxInt, math.MaxInt, math.MaxInt, math.MaxInt, math.MaxInt))
	for range 20000 {
		x, y := others[next(len(others))], others[next(len(others))]
		x.Version, y.Version = versions()[next(len(versions()))], versions()[next(len(versions()))]
		a, b := next(4) > 0, next(4) > 0
		if n := meta.Newer(x, y, a, b); n != plainSlot(x.Version, y.Version, a, b) {
			t.Errorf("Newer(%v, %v, %v, %v): %d", x, y, a, b, n)
		}
	}
}

// The versions of one file from its first one on: each goes into the slot that the one ahead of it has not.
func TestP7_3OneVersionBehindTheOther(t *testing.T) {
	var slots [2]api.Head
	var said [2]bool
	for version := 1; version < 100; version++ {
		slots[version%2] = head(version, 2, 0, 0, 0, 0, 0)
		said[version%2] = true
		if n := meta.Newer(slots[0], slots[1], said[0], said[1]); n != version%2 {
			t.Errorf("behind version %d the slot is %d", version, n)
		}
	}
}
