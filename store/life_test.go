package store_test

import (
	"fmt"
	"strings"
	"testing"

	"coppice/api"
)

// life does whatever can be done with a store by noise, while its power does not fail: P19.9, P19.12, P19.13 and P19.14, and P19.15 at each read.
type life struct {
	*bench
	next  func(int) int
	sizes []int
	most  int // views at once
}

// key is a key by noise; one that may not be now and then.
func (l *life) key() string {
	switch l.next(60) {
	case 0:
		return ""
	case 1:
		return strings.Repeat("k", 254+l.next(3))
	}
	return some(l.next)
}

// change puts or deletes.
func (l *life) change() {
	if l.next(5) < 2 {
		l.delete(l.key())
		return
	}
	l.put(l.key(), fill(l.sizes[l.next(len(l.sizes))], l.next(256)))
}

// ask asks a view something.
func (l *life) ask(x *seen) {
	switch l.next(4) {
	case 0:
		l.read(x, l.key())
	case 1:
		l.span(x, l.key(), l.key(), l.next(9)-1)
	case 2:
		l.rank(x, l.key())
	default:
		l.nth(x, l.next(len(x.says)+2)-1)
	}
}

// step does one thing.
func (l *life) step() {
	switch n := l.next(20); {
	case n < 7:
		l.change()
	case n < 8:
		l.get(l.key())
	case n < 9:
		l.scan(l.key(), l.key(), l.next(9)-1)
	case n < 11:
		l.commit()
	case n < 12 && l.next(2) == 0:
		l.rollback()
	case n < 14 && len(l.views) < l.most:
		l.view()
	case n < 15 && len(l.views) > 0:
		l.close(l.next(len(l.views)))
	case len(l.views) > 0:
		l.ask(l.views[l.next(len(l.views))])
	}
}

// TestP19_9Lives: P0.7, P0.10 and P0.11, and that no call answers another error than it may.
func TestP19_9Lives(t *testing.T) {
	for i, x := range []struct {
		cap, frames, most int
		sizes             []int
	}{
		{8, 1, 3, []int{0, 3, 40}},
		{13, 1, 5, []int{0, 3, 40, 300}},
		{30, 3, 5, []int{400, 512}},
		{90, 2, 4, []int{0, 513, 4086, 9000}},
		{900, 4, 9, []int{0, 513, 4086, 9000, 20000}},
		{api.MaxPages, 4096, 9, []int{1, 200, 512, 600}},
	} {
		t.Run(fmt.Sprint(x.cap, x.sizes), func(t *testing.T) {
			t.Parallel()
			l := &life{newBench(t, x.cap, x.frames, blank(t, x.cap).Durable()), noise(uint64(1900 + i)), x.sizes, x.most}
			grew, full := 0, 0
			for range 5 {
				for range 200 {
					l.step()
				}
				for _, x := range l.views {
					l.tells(x)
				}
				l.rollback()
				grew, full = grew+l.grew, full+l.full
				// A store is opened anew, with what the last one left: its views are gone, and what they kept is usable.
				l.bench = newBench(t, x.cap, x.frames, l.d.Durable())
			}
			if grew == 0 || full == 0 && x.cap < 100 {
				t.Errorf("the file has grown %d times, and %d times there was no room", grew, full)
			}
		})
	}
}

// TestP19_12Long: one view stays open, while the store goes on and on.
func TestP19_12Long(t *testing.T) {
	t.Parallel()
	l := &life{newBench(t, 3000, 2, rich(t)), noise(1912), []int{0, 5, 512, 600, 4100}, 9}
	x := l.view()
	for range 40 {
		for range 8 {
			l.change()
		}
		l.commit()
		l.ask(x)
	}
	l.tells(x)
	l.close(0)
}

// TestP19_13Need: a Commit takes just Need() pages of Room(), whatever views are open: it is refused if one more is asked for than there is.
func TestP19_13Need(t *testing.T) {
	t.Parallel()
	for cap := 4; cap < 40; cap++ {
		b := newBench(t, cap, 1, blank(t, cap).Durable())
		for i := 0; b.full == 0 && i < 99; i++ {
			b.put("a", fill(i%4*4085, i))
			if i%3 == 0 {
				b.view()
			}
			if i%5 == 4 {
				b.close(0)
			}
			b.commit()
		}
		if b.full == 0 {
			t.Fatalf("cap %d: there was always room", cap)
		}
		for len(b.views) > 0 {
			b.close(0)
		}
		full := b.full
		b.put("a", "")
		b.commit()
		if cap > 12 && b.full != full {
			t.Errorf("cap %d: with no view open there is no room: need %d, room %d", cap, b.s.Need(), b.s.Room())
		}
	}
}
