package cache_test

import (
	"fmt"
	"slices"
	"testing"

	"coppice/api"
	"coppice/cache"
	"coppice/page"
)

// step is a Read, or a Drop, of a page.
type step struct {
	no   int
	drop bool
}

// anySteps are steps by noise, over about that many pages; some of them over numbers that no page has. Seeds that leave the same rest by four ask in the same manner.
func anySteps(seed uint64, pages, n int) []step {
	next := noise(seed)
	var l []step
	at := 0
	for range n {
		switch seed % 4 {
		case 0: // anywhere
			at = next(pages+2) - 1
		case 1: // round and round: the worst that a cache can meet
			at = (at + 1) % pages
		case 2: // near the last one
			at = max(-1, min(pages, at+next(5)-2))
		case 3: // mostly a few
			at = min(next(pages), next(pages), next(pages), next(pages))
		}
		l = append(l, step{at, next(9) == 0})
	}
	return l
}

// TestP13_6Room: no more pages are held than there are frames, and none twice; and where an error is told, a miss was counted.
func TestP13_6Room(t *testing.T) {
	t.Parallel()
	image := mixed(t)
	pages := len(image) / api.PageSize
	for seed := range uint64(40) {
		frames := 1 + int(seed)%9
		c := cache.New(diskOf(t, image), frames)
		for _, s := range anySteps(seed, pages, 300) {
			hits, misses := c.Counts()
			if s.drop {
				c.Drop(s.no)
			} else if _, err := c.Read(s.no); err != api.OK {
				if h, m := c.Counts(); h != hits || m != misses+1 {
					t.Fatalf("seed %d: Read(%d) answers %d: hits %d, misses %d behind %d, %d", seed, s.no, err, h, m, hits, misses)
				}
			}
			held := c.Held()
			if len(held) > frames {
				t.Fatalf("seed %d: %d pages in %d frames", seed, len(held), frames)
			}
			slices.Sort(held)
			if len(slices.Compact(held)) != len(c.Held()) {
				t.Fatalf("seed %d: held %v", seed, c.Held())
			}
		}
	}
}

// TestP13_7True: whatever was asked and dropped, Read tells what the disk's bytes say, or why they say nothing.
func TestP13_7True(t *testing.T) {
	t.Parallel()
	image := mixed(t)
	pages := len(image) / api.PageSize
	for seed := range uint64(40) {
		d := diskOf(t, image)
		c := cache.New(d, 1+int(seed)%11)
		for _, s := range anySteps(seed, pages, 300) {
			if s.drop {
				c.Drop(s.no)
				continue
			}
			got, err := c.Read(s.no)
			b, wantErr := d.Read(s.no)
			var want api.Page
			if wantErr == api.OK {
				want, wantErr = page.Decode(b)
			}
			if err != wantErr || !same(got, want) {
				t.Fatalf("seed %d: Read(%d): %s, %d; not %s, %d", seed, s.no, tell(got), err, tell(want), wantErr)
			}
			spoilPage(&got)
		}
	}
}

// begins tells whether one row is a beginning of another one.
func begins(one, other []int) bool {
	return len(one) <= len(other) && slices.Equal(one, other[:len(one)])
}

// TestP13_8MoreFrames: caches of one to eight frames, and of more than there are pages, are told the same; each is held against the next greater one.
func TestP13_8MoreFrames(t *testing.T) {
	t.Parallel()
	image := mixed(t)
	pages := len(image) / api.PageSize
	for seed := range uint64(24) {
		d := diskOf(t, image)
		var row []*cache.Cache
		for _, frames := range []int{1, 2, 2, 3, 4, 5, 6, 7, 8, 13, api.MaxFrames} {
			row = append(row, cache.New(d, frames))
		}
		for _, s := range anySteps(seed, pages, 250) {
			for _, c := range row {
				if s.drop {
					c.Drop(s.no)
				} else {
					c.Read(s.no)
				}
			}
			for i := range len(row) - 1 {
				if fault := against(row[i], row[i+1]); fault != "" {
					t.Fatalf("seed %d: behind %v of the caches %d and %d: %s", seed, s, i, i+1, fault)
				}
			}
		}
	}
}

// against tells what is wrong between a cache and one with as many frames at least; nothing, if all is as it should be.
func against(small, great *cache.Cache) string {
	hits, misses := small.Counts()
	more, fewer := great.Counts()
	if !begins(small.Held(), great.Held()) {
		return fmt.Sprintf("held %v is no beginning of %v", small.Held(), great.Held())
	}
	if hits > more || hits+misses != more+fewer {
		return fmt.Sprintf("hits %d, misses %d, but %d, %d with more frames", hits, misses, more, fewer)
	}
	return ""
}

// TestP0_4TheSameAgain: two caches that are told the same, over disks that hold the same, tell the same.
func TestP0_4TheSameAgain(t *testing.T) {
	t.Parallel()
	image := mixed(t)
	for seed := range uint64(12) {
		one, two := cache.New(diskOf(t, image), 6), cache.New(diskOf(t, image), 6)
		for _, s := range anySteps(seed, len(image)/api.PageSize, 300) {
			if s.drop {
				one.Drop(s.no)
				two.Drop(s.no)
				continue
			}
			p, err := one.Read(s.no)
			q, other := two.Read(s.no)
			if err != other || !same(p, q) || !slices.Equal(one.Held(), two.Held()) {
				t.Fatalf("seed %d: Read(%d) answers %d and %d, held %v and %v", seed, s.no, err, other, one.Held(), two.Held())
			}
		}
	}
}
