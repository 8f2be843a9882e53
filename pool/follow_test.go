package pool_test

import (
	"fmt"
	"slices"
	"testing"

	"coppice/api"
	"coppice/pool"
)

// TestP17_6Refused: a refused Commit changes nothing, and the pins neither.
func TestP17_6Refused(t *testing.T) {
	p, m := both(t, 10, 12, 3, 5, 6)
	p.Pin(2)
	commits(t, "gone", p, &plain{10, 12, m.free, []int{2}}, 0, []int{4, 8}, 3)
	before := tell(p)
	for _, gone := range [][]int{{5}, {4}, {9, 7}, {12}, {1}} {
		if _, err := p.Commit(1, gone, 9); err != api.ErrPool || tell(p) != before {
			t.Errorf("%v: %d, %s, not %s", gone, err, tell(p), before)
		}
	}
	for _, d := range []int{-1, 6, 100} {
		if _, err := p.Commit(d, []int{7}, 9); err == api.OK || tell(p) != before {
			t.Errorf("%d: %d, %s, not %s", d, err, tell(p), before)
		}
	}
	if !p.Unpin(2) || p.Unpin(2) {
		t.Error("2 was not pinned just once")
	}
}

// TestP17_6Memory: what is handed in is neither changed nor kept, and each list that is answered is new.
func TestP17_6Memory(t *testing.T) {
	free := []int{3, 5, 6, 77, 78}
	p := pool.New(10, 14, free[:3])
	gone := []int{4, 9, 88}
	if p.Lists(1, gone[:2]); !slices.Equal(gone, []int{4, 9, 88}) || !slices.Equal(free, []int{3, 5, 6, 77, 78}) {
		t.Fatal("what was handed in has changed")
	}
	taken, _ := p.Commit(1, gone[:2], 7)
	if !slices.Equal(taken, []int{3, 5}) || !slices.Equal(gone, []int{4, 9, 88}) {
		t.Fatal("what was handed in has changed")
	}
	want := tell(p)
	spoil := func(l []int) {
		_ = append(l, 1, 2, 3)
		for i := range l[:cap(l)] {
			l[:cap(l)][i] += 101
		}
	}
	for range 3 {
		for _, l := range [][]int{free, gone, taken, p.Free(), p.Usable()} {
			spoil(l)
			if tell(p) != want {
				t.Fatal("the pool shows what was written into a list")
			}
		}
		a, b := p.Free(), p.Usable()
		spoil(a)
		if !slices.Equal(b, []int{4, 6, 9}) || !slices.Equal(p.Free(), b) {
			t.Fatal("a list shows what was written into another one")
		}
	}
}

// TestP17_6Apart: two pools never see one another.
func TestP17_6Apart(t *testing.T) {
	p, m := both(t, 10, 14, 3, 5)
	q, n := both(t, 10, 14, 3, 5)
	p.Pin(1)
	if q.Unpin(1) {
		t.Error("a pin of another pool")
	}
	m.pins = []int{1}
	commits(t, "p", p, m, 1, []int{7}, 4)
	alike(t, "q", q, n)
	commits(t, "q", q, n, 3, []int{8}, 9)
	alike(t, "p", p, m)
}

// life is a pool with whatever is done with it by noise.
type life struct {
	p     *pool.Pool
	m     *plain
	next  func(int) int
	mark  int
	taken map[int]int // of each number when it was taken last
	gone  map[int]int // of each number when it was given up last, or was free from the beginning on
	since map[int]int // of each number the version of the Commit that gave it up last
}

// used are numbers that are not free, each by chance, rising.
func (l *life) used() []int {
	free := l.m.all(false)
	var gone []int
	for no := 2; no < l.m.count; no++ {
		if !slices.Contains(free, no) && l.next(3) == 0 {
			gone = append(gone, no)
		}
	}
	return gone
}

// step does something by noise, and asks for P17.7 to P17.9.
func (l *life) step(t *testing.T, version int) {
	t.Helper()
	pin := version - l.next(4)
	switch l.next(5) {
	case 0:
		l.p.Pin(pin)
		l.m.pins = append(l.m.pins, pin)
		alike(t, "Pin", l.p, l.m)
		return
	case 1, 2:
		if len(l.m.pins) > 0 {
			pin = l.m.pins[l.next(len(l.m.pins))]
		}
		if l.p.Unpin(pin) != l.m.unpin(pin) {
			t.Fatalf("Unpin(%d)", pin)
		}
		alike(t, "Unpin", l.p, l.m)
		return
	}
	l.commit(t, l.next(6), l.used(), version)
}

func (l *life) commit(t *testing.T, d int, gone []int, version int) {
	t.Helper()
	if l.next(8) == 0 {
		gone = append(gone, l.next(l.m.count+2))
	}
	free, count := len(l.p.Free()), l.p.Count()
	if f := l.p.Lists(d, gone); f > (free+len(gone)+api.FreesPer-1)/api.FreesPer {
		t.Fatalf("%d pages of frees for %d numbers", f, free+len(gone))
	}
	usable := l.p.Usable()
	pins := slices.Clone(l.m.pins)
	taken, err := commits(t, "a life", l.p, l.m, d, gone, version)
	if err != api.OK {
		return
	}
	l.mark++
	for _, no := range taken {
		w, given := l.since[no]
		if given && slices.ContainsFunc(pins, func(v int) bool { return v < w }) {
			t.Fatalf("%d was given up by version %d, and is given out while %v are pinned", no, w, pins)
		}
		if slices.Contains(gone, no) {
			t.Fatalf("%d is given out by the Commit that gives it up", no)
		}
		l.taken[no] = l.mark
	}
	for _, no := range gone {
		l.gone[no], l.since[no] = l.mark, version
	}
	if l.p.Count() > count && !slices.Equal(taken[:len(usable)], usable) {
		t.Fatalf("the count grows, and not all of %v is taken: %v", usable, taken)
	}
	l.once(t)
}

// once asks that each number is free, or was taken later than it was given up, or neither.
func (l *life) once(t *testing.T) {
	t.Helper()
	free := l.p.Free()
	for no := 2; no < l.p.Count(); no++ {
		gone, wasGone := l.gone[no]
		isFree := wasGone && l.taken[no] <= gone
		if isFree != slices.Contains(free, no) {
			t.Fatalf("%d was given up at %d, taken at %d: free are %v", no, gone, l.taken[no], free)
		}
	}
}

// TestP17_7Lives: whatever is done with a pool it tells what the plain one does, and P17.7, P17.8 and P17.9 hold.
func TestP17_7Lives(t *testing.T) {
	for seed := range 30 {
		t.Run(fmt.Sprint(seed), func(t *testing.T) {
			t.Parallel()
			next := noise(uint64(seed))
			count := 2 + next(40)
			var free []int
			l := &life{next: next, taken: map[int]int{}, gone: map[int]int{}, since: map[int]int{}}
			for no := 2; no < count; no++ {
				if next(2) == 0 {
					free = append(free, no)
					l.gone[no], l.since[no] = 0, 0
				}
			}
			l.p, l.m = both(t, count, count+next(60), free...)
			for i := range 150 {
				l.step(t, i/2)
			}
		})
	}
}

// TestP17_7Long: the same with so many numbers that there are several pages of frees.
func TestP17_7Long(t *testing.T) {
	t.Parallel()
	next := noise(99)
	p, m := both(t, 2200, 2400, upTo(2, 1100)...)
	for version := range 8 {
		free := m.all(false)
		var gone []int
		for no := 2; no < m.count; no++ {
			if _, found := slices.BinarySearch(free, no); !found && next(3) == 0 {
				gone = append(gone, no)
			}
		}
		commits(t, "long", p, m, next(300), gone, version)
	}
}
