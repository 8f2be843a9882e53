package hands_test

import (
	"fmt"
	"math"
	"slices"
	"testing"

	"coppice/api"
	"coppice/check"
)

// TestP16_2Hands: hands and limit are asked ahead of the file.
func TestP16_2Hands(t *testing.T) {
	for _, b := range [][]byte{nil, make([]byte, 1), make([]byte, 8192), whole(t), broken(whole(t), 2)} {
		for _, n := range wrongHands() {
			for _, limit := range []int{math.MinInt, -1, 0, 5, 6, math.MaxInt} {
				checkIs(t, "wrong hands", b, n, limit, verdict{0, api.ErrHands})
			}
		}
		for n := 1; n <= 16; n++ {
			for _, limit := range []int{math.MinInt, -1 << 32, -1} {
				checkIs(t, "a limit below 0", b, n, limit, verdict{0, api.ErrHands})
			}
		}
	}
}

// limits asks how a file is judged with a limit below that, from 0 on, and with that one and greater ones.
func limits(t *testing.T, what string, b []byte, from int, below, rest verdict) {
	t.Helper()
	for _, n := range []int{1, 2, 16} {
		for limit := range from {
			checkIs(t, what, b, n, limit, below)
		}
		for _, limit := range []int{from, from + 1, from + 2, 1000, api.MaxPages - 1, api.MaxPages, api.MaxPages + 1, math.MaxInt} {
			checkIs(t, what, b, n, limit, rest)
		}
	}
}

// TestP16_2First: a fault in the first three steps is told whatever the limit.
func TestP16_2First(t *testing.T) {
	b := whole(t)
	always := func(what string, b []byte, want verdict) {
		t.Helper()
		limits(t, what, b, 7, want, want)
	}
	for _, size := range []int{0, 1, 4095, 4096, 4097, 8193, 6*4096 - 1} {
		always("no file", b[:size:size], verdict{0, api.ErrFile})
	}
	always("no head", broken(b, 1), verdict{0, api.ErrNoHead})
	always("no head, all else amiss", broken(b, 0, 1, 2, 3, 4, 5), verdict{0, api.ErrNoHead})
	always("a head in the other slot", slices.Concat(b[4096:8192], b[:4096], b[8192:]), verdict{0, api.ErrNoHead})
	for pages := 2; pages < 6; pages++ {
		always("pages are missing", b[:pages*4096], verdict{1, api.ErrCount})
	}
	even := file(t, metaOf(api.Head{Version: 2, Count: 4}), api.Page{}, api.Page{})
	always("a page is missing, slot 0", even, verdict{0, api.ErrCount})
	always("a byte too many", append(slices.Clone(even), 0), verdict{0, api.ErrFile})
}

// TestP16_2More: whether there are too many pages is known ahead of whatever is amiss in them.
func TestP16_2More(t *testing.T) {
	b, more := whole(t), verdict{0, api.ErrMore}
	head := func(h api.Head) []byte { return slices.Concat(file(t, api.Page{}, metaOf(h)), b[8192:]) }
	limits(t, "whole", b, 6, more, verdict{})
	limits(t, "the leaf is broken", broken(b, 2), 6, more, verdict{2, api.ErrSum})
	limits(t, "the chain is broken", broken(b, 3), 6, more, verdict{3, api.ErrSum})
	limits(t, "the list is broken", broken(b, 4), 6, more, verdict{4, api.ErrSum})
	limits(t, "all pages are broken", broken(b, 2, 3, 4, 5), 6, more, verdict{2, api.ErrSum})
	limits(t, "the other slot is broken", broken(b, 0), 6, more, verdict{})
	limits(t, "a free page", broken(b, 5), 6, more, verdict{})
	limits(t, "the height", head(api.Head{Version: 3, Count: 6, Root: 2, Height: 2, Keys: 3, First: 4, Free: 1}), 6, more, verdict{2, api.ErrDepth})
	limits(t, "the keys", head(api.Head{Version: 3, Count: 6, Root: 2, Height: 1, Keys: 4, First: 4, Free: 1}), 6, more, verdict{1, api.ErrKeys})
	limits(t, "no root", head(api.Head{Version: 3, Count: 6, First: 4, Free: 1}), 6, more, verdict{2, api.ErrLoose})
	limits(t, "fewer count", head(api.Head{Version: 3, Count: 5, Root: 2, Height: 1, Keys: 3, First: 4, Free: 1}), 5, more, verdict{4, api.ErrOutside})
	// This ErrCount is step 7's, so the limit comes ahead of it.
	limits(t, "the frees", head(api.Head{Version: 3, Count: 6, Root: 2, Height: 1, Keys: 3, First: 4, Free: 2}), 6, more, verdict{1, api.ErrCount})
	limits(t, "pages that do not count", append(slices.Clone(b), make([]byte, 9*4096)...), 6, more, verdict{})
	limits(t, "pages that do not count behind none", append(formatted(t), b...), 2, more, verdict{})
}

// TestP16_2TwoHeads: the Count is that of the file's head.
func TestP16_2TwoHeads(t *testing.T) {
	two := func(x, y api.Head, pages int) []byte {
		return append(file(t, metaOf(x), metaOf(y)), make([]byte, (pages-2)*4096)...)
	}
	few, many := api.Head{Version: 4, Count: 2}, api.Head{Version: 4, Count: 5}
	more, loose := verdict{0, api.ErrMore}, verdict{2, api.ErrLoose}
	limits(t, "the newer one, of few, in slot 0", two(few, api.Head{Version: 3, Count: 5}, 5), 2, more, verdict{})
	limits(t, "the newer one, of many, in slot 0", two(many, api.Head{Version: 3, Count: 2}, 5), 5, more, loose)
	limits(t, "the newer one, of few, in slot 1", two(many, api.Head{Version: 5, Count: 2}, 5), 2, more, verdict{})
	limits(t, "the newer one, of many, in slot 1", two(few, api.Head{Version: 5, Count: 5}, 5), 5, more, loose)
	limits(t, "slot 1 does not count", two(few, api.Head{Version: 6, Count: 5}, 5), 2, more, verdict{})
	limits(t, "slot 0 does not count", two(api.Head{Version: 7, Count: 5}, api.Head{Version: 5, Count: 2}, 5), 2, more, verdict{})
	limits(t, "the older one speaks of more than there are", two(few, api.Head{Version: 3, Count: 9}, 5), 2, more, verdict{})
	always := verdict{0, api.ErrCount}
	limits(t, "the newer one speaks of more than there are", two(api.Head{Version: 4, Count: 9}, api.Head{Version: 3, Count: 2}, 5), 10, always, always)
	leaf := slices.Concat(file(t, metaOf(many), leafOf("a")), make([]byte, 3*4096))
	limits(t, "a leaf in slot 1", leaf, 5, more, loose)
	limits(t, "the newer one is broken", broken(two(few, api.Head{Version: 5, Count: 5}, 5), 1), 2, more, verdict{})
}

// TestP16_2Plain: files by noise, broken here and there, with limits about their Count, as the chapter's words say.
func TestP16_2Plain(t *testing.T) {
	t.Parallel()
	next := noise(162)
	seen := map[api.Errno]int{}
	for i, b := range woods(t) {
		for range 6 {
			h, _, _ := headOf(b)
			for _, limit := range []int{0, h.Count - 1, h.Count, h.Count + 1, next(2 * len(b) / 4096), api.MaxPages} {
				n := 1 + next(16)
				want := plainCheck(b, n, limit)
				seen[want.err]++
				checkIs(t, fmt.Sprint("file ", i), b, n, limit, want)
			}
			b = broken(b, next(len(b)/4096))
		}
	}
	if len(seen) < 5 {
		t.Errorf("only these errors come: %v", seen)
	}
}

// TestP16_4Check: with a limit of all pages that may be, or more, the answer is package check's.
func TestP16_4Check(t *testing.T) {
	t.Parallel()
	next := noise(164)
	for i, b := range woods(t) {
		for range 5 {
			at, err := check.Check(b)
			for _, limit := range []int{api.MaxPages, api.MaxPages + 1, math.MaxInt} {
				checkIs(t, fmt.Sprint("file ", i), b, 1+next(16), limit, verdict{at, err})
			}
			b = broken(b, next(len(b)/4096))
		}
	}
}
