package look_test

import (
	"fmt"
	"math"
	"testing"

	"coppice/api"
)

// play asks a bench all kinds of questions by noise.
func (b *bench) play(next func(int) int, l []string, times int) {
	b.t.Helper()
	key := func() string { return l[next(len(l))] }
	var c *cursor
	for range times {
		switch n := next(30); {
		case n < 4:
			b.get(key())
		case n < 8:
			b.scan(key(), key(), 1+next(9))
		case n < 10:
			b.scan(key(), "", []int{math.MaxInt, 1, 2, 0, -1, math.MinInt}[next(6)])
		case n < 13:
			b.rank(key())
		case n < 16:
			b.nth(next(2 + len(l)/6)) // there are about six strings to ask by for each pair
		case n < 17:
			b.nth([]int{-1, math.MinInt, math.MaxInt, 1<<32 - 1, 1 << 32}[next(5)])
		case n < 19 || c == nil:
			c, _ = b.seek(key())
		case n < 22:
			c.pair()
		case n < 26:
			c.next()
		default:
			c.prev()
		}
	}
}

// TestAnyTrees: all questions by noise, of trees that nothing is wrong with, by the chapter's words.
func TestAnyTrees(t *testing.T) {
	for part := range 4 {
		t.Run(fmt.Sprint(part), func(t *testing.T) {
			t.Parallel()
			for seed := range uint64(25) {
				next := noise(seed*4 + uint64(part))
				w := thicket(next)
				b := newBench(t, w.image(), 1+next(len(w.pages)), w.root, w.height)
				b.play(next, w.asking(), 150)
			}
		})
	}
}

// TestP14_8AnyBytes: the same of trees that are spoilt, here and there, and of roots and heights that are none. Each call ends, with what the chapter's words say, and reads no more than it may.
func TestP14_8AnyBytes(t *testing.T) {
	for part := range 8 {
		t.Run(fmt.Sprint(part), func(t *testing.T) {
			t.Parallel()
			for seed := range uint64(60) {
				next := noise(1000 + seed*8 + uint64(part))
				w := thicket(next)
				l := w.asking()
				for range 1 + next(4) {
					w.spoil(next)
				}
				b := newBench(t, w.image(), 1+next(len(w.pages)), w.root, w.height)
				b.play(next, l, 100)
				b.turnTo(1+next(len(w.pages)+1), 1+next(api.MaxLevel+1))
				b.play(next, l, 10)
				if w.height > 1 {
					b.turnTo(w.root, w.height-1)
					b.play(next, l, 5)
				}
			}
		})
	}
}
