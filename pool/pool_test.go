package pool_test

import (
	"fmt"
	"math"
	"slices"
	"testing"

	"coppice/api"
	"coppice/pool"
)

func TestExamples(t *testing.T) {
	p := pool.New(10, 12, []int{3, 5, 6})
	is := func(what string, got, want any) {
		t.Helper()
		if fmt.Sprint(got) != fmt.Sprint(want) {
			t.Errorf("%s: %v, not %v", what, got, want)
		}
	}
	commit := func(d int, gone []int, version int, want []int, err api.Errno) {
		t.Helper()
		if l, e := p.Commit(d, gone, version); e != err || !slices.Equal(l, want) {
			t.Errorf("Commit(%d, %v, %d): %v, %d, not %v, %d", d, gone, version, l, e, want, err)
		}
	}
	is("Room", p.Room(), 5)
	is("Lists", []int{p.Lists(0, nil), p.Lists(1, nil), p.Lists(3, nil)}, []int{1, 1, 0})
	commit(1, []int{4, 9}, 7, []int{3, 5}, api.OK)
	is("Free", p.Free(), []int{4, 6, 9})
	p.Pin(6)
	is("Usable", p.Usable(), []int{6})
	p.Pin(7)
	is("Usable", p.Usable(), []int{6})
	is("Unpin", []bool{p.Unpin(6), p.Unpin(6)}, []bool{true, false})
	is("Usable", p.Usable(), []int{4, 6, 9})
	p.Pin(6)
	is("Lists", p.Lists(3, nil), 1)
	is("Room", p.Room(), 3)
	commit(3, nil, 8, nil, api.ErrFull)
	commit(2, nil, 8, []int{6, 10, 11}, api.OK)
	is("Free", p.Free(), []int{4, 9})
	is("Count", p.Count(), 12)
	is("Room", p.Room(), 0)
	commit(0, []int{4}, 9, nil, api.ErrPool)
	commit(-1, nil, 9, nil, api.ErrPool)
	for _, p := range []*pool.Pool{pool.New(1, 9, nil), pool.New(10, 9, nil), pool.New(5, 9, []int{4, 3}), pool.New(5, 9, []int{5})} {
		if p != nil {
			t.Error("New answers a pool")
		}
	}
}

// TestP17_1New: which counts, caps and numbers a pool has.
func TestP17_1New(t *testing.T) {
	numbers := []int{math.MinInt, -1, 0, 1, 2, 3, 4, 9, 524286, 524287, 524288, math.MaxInt}
	lists := [][]int{nil, {}, {2}, {3}, {1}, {0}, {-1}, {2, 3}, {3, 2}, {2, 2}, {3, 3}, {2, 4, 3}, {2, 3, 8}, {2, 3, 9}, {8}, {9}, {1, 2}, {2, 524285}, {2, 524286}, {2, 524287}, {math.MinInt}, {2, math.MaxInt}}
	made := 0
	for _, count := range numbers {
		for _, cap := range numbers {
			for _, free := range lists {
				p, m := pool.New(count, cap, free), newPlain(count, cap, free)
				if (p == nil) != (m == nil) {
					t.Fatalf("New(%d, %d, %v): %v", count, cap, free, p)
				}
				if p != nil {
					made++
					alike(t, fmt.Sprint("New ", count, cap, free), p, m)
				}
			}
		}
	}
	if made == 0 {
		t.Error("no pool was made")
	}
}

// TestP17_2Pins: a version is pinned as often as it was, and no other one is touched.
func TestP17_2Pins(t *testing.T) {
	p, _ := both(t, 9, 20, 2, 3, 5)
	unpin := func(version int, want bool) {
		t.Helper()
		if p.Unpin(version) != want {
			t.Errorf("Unpin(%d): %v", version, !want)
		}
	}
	versions := []int{math.MinInt, -7, -1, 0, 1, 2, 1 << 32, api.MaxVersion, math.MaxInt}
	for _, v := range versions {
		unpin(v, false)
	}
	for i, v := range versions {
		for range i + 1 {
			p.Pin(v)
		}
	}
	for i, v := range versions {
		for range i + 1 {
			unpin(v, true)
		}
		unpin(v, false)
		unpin(v, false)
	}
	p.Pin(4)
	unpin(3, false)
	unpin(5, false)
	unpin(4, true)
}

// TestP17_3Usable: what is free since a version is usable if no version ahead of that is pinned.
func TestP17_3Usable(t *testing.T) {
	versions := []int{math.MinInt, math.MinInt + 1, -3, -1, 0, 1, 2, 3, 7, api.MaxVersion, math.MaxInt - 1, math.MaxInt}
	for _, since := range versions {
		for _, first := range versions {
			for _, second := range versions {
				p, m := both(t, 9, 20, 2, 3)
				commits(t, "gone", p, m, 0, []int{5, 7}, since)
				p.Pin(first)
				m.pins = append(m.pins, first)
				alike(t, fmt.Sprint(since, " pinned ", first), p, m)
				p.Pin(second)
				m.pins = append(m.pins, second)
				alike(t, fmt.Sprint(since, " pinned ", first, second), p, m)
				if p.Unpin(first) != m.unpin(first) {
					t.Fatal("Unpin")
				}
				alike(t, fmt.Sprint(since, " pinned ", second), p, m)
			}
		}
	}
}

// TestP17_4Lists: how many pages of frees, about each number at which there is one more.
func TestP17_4Lists(t *testing.T) {
	is := func(p *pool.Pool, d int, gone []int, want int) {
		t.Helper()
		if f := p.Lists(d, gone); f != want {
			t.Errorf("%d free, %d gone, %d taken: %d pages of frees, not %d", len(p.Free()), len(gone), d, f, want)
		}
	}
	for _, x := range []struct{ free, d, gone, want int }{
		{0, 0, 0, 0}, {0, 5, 0, 0}, {0, 0, 1, 1}, {0, 0, 1021, 1}, {0, 0, 1022, 2}, {0, 9, 1021, 1}, {0, 9, 1022, 2}, {0, 0, 2042, 2}, {0, 0, 2043, 3},
		{1, 0, 0, 1}, {1, 1, 0, 0}, {2, 1, 0, 1}, {1021, 0, 0, 1}, {1022, 0, 0, 1}, {1023, 0, 0, 2}, {1023, 1, 0, 1}, {1023, 1022, 0, 1}, {1023, 1023, 0, 0},
		{2044, 0, 0, 2}, {2045, 0, 0, 3}, {2045, 1, 0, 2}, {1000, 0, 21, 1}, {1000, 0, 22, 1}, {1000, 0, 23, 2}, {1000, 2000, 1021, 1}, {1000, 2000, 1022, 2},
		{1000, 999, 1021, 1}, {1000, 999, 1022, 2}, {1000, 998, 1021, 2}, {3, 2, 1020, 1}, {3, 1, 1020, 1}, {3, 0, 1020, 2},
	} {
		count := 2 + x.free + x.gone
		gone := upTo(2+x.free, count)
		for _, cap := range []int{count, count + 1, api.MaxPages} { // it is reckoned so whether there is room or not
			is(pool.New(count, cap, upTo(2, 2+x.free)), x.d, gone, x.want)
		}
	}
	p := pool.New(1100, 1100, upTo(2, 1090))
	for _, d := range []int{1088, 1089, 1 << 31, 1 << 32, api.MaxVersion, math.MaxInt - 1, math.MaxInt} {
		is(p, d, nil, 0)
		is(p, d, []int{1091}, 1)
	}
	for _, d := range []int{-1, -2, math.MinInt} {
		is(p, d, nil, -1)
	}
	great := pool.New(api.MaxPages, api.MaxPages, upTo(2, api.MaxPages))
	is(great, 0, nil, 513)
	is(great, 524285, nil, 0)
	is(great, 524284, nil, 1)
	great.Pin(-1)
	is(great, 0, nil, 514)
	is(great, math.MaxInt, nil, 514)
}

// TestP17_4Pinned: what is not usable is not taken, but is listed.
func TestP17_4Pinned(t *testing.T) {
	for _, d := range []int{0, 1, 2, 3, 4, 9} {
		p, m := both(t, 2500, 2600, upTo(2, 1000)...)
		commits(t, "gone", p, m, 3, upTo(1500, 1700), 5)
		p.Pin(4)
		m.pins = append(m.pins, 4)
		commits(t, "pinned", p, m, d, upTo(2000, 2023), 6)
		commits(t, "pinned, all taken", p, m, 990, nil, 7)
		commits(t, "pinned, none usable", p, m, d, upTo(1710, 2000), 8)
		p.Unpin(4)
		m.unpin(4)
		alike(t, "not pinned", p, m)
		commits(t, "not pinned", p, m, d, nil, 9)
	}
}

// TestP17_4Gone: which numbers may be given up.
func TestP17_4Gone(t *testing.T) {
	for _, gone := range [][]int{nil, {2}, {4}, {9}, {2, 4, 7}, {2, 9}} {
		p, m := both(t, 10, 14, 3, 5, 6)
		if _, err := commits(t, "gone", p, m, 1, gone, 2); err != api.OK {
			t.Errorf("%v: %d", gone, err)
		}
	}
	for _, gone := range [][]int{{3}, {5}, {2, 3}, {6, 7}, {2, 4, 6}, {1}, {0}, {-1}, {math.MinInt}, {10}, {11}, {2, 10}, {math.MaxInt}, {4, 2}, {2, 2}, {9, 9}, {2, 7, 4}, {1, 2}, {14}} {
		p, m := both(t, 10, 14, 3, 5, 6)
		if _, err := commits(t, "gone", p, m, 1, gone, 2); err != api.ErrPool || p.Lists(0, gone) != -1 {
			t.Errorf("%v: %d", gone, err)
		}
		if l, err := p.Commit(99, gone, 2); err != api.ErrPool || len(l) > 0 {
			t.Errorf("%v, and no room: %d", gone, err)
		}
	}
}

// TestP17_5Room: a commit of just what there is room for, and of one more.
func TestP17_5Room(t *testing.T) {
	for _, cap := range []int{10, 11, 15} {
		for d := range 12 {
			for _, gone := range [][]int{nil, {2}, {2, 4}} {
				p, m := both(t, 10, cap, 3, 5, 6)
				commits(t, fmt.Sprint("cap ", cap), p, m, d, gone, 3)
			}
		}
	}
	p, m := both(t, 10, 12, 3, 5, 6)
	for _, d := range []int{6, 1 << 32, math.MaxInt - 1, math.MaxInt} {
		if l, err := p.Commit(d, []int{2}, 3); err != api.ErrFull || len(l) > 0 {
			t.Errorf("Commit of %d: %v, %d", d, l, err)
		}
		alike(t, "refused", p, m)
	}
}

// TestP17_5Great: the last numbers that there are.
func TestP17_5Great(t *testing.T) {
	p := pool.New(api.MaxPages-2, api.MaxPages, nil)
	if l, err := p.Commit(3, nil, 1); err != api.ErrFull || len(l) > 0 {
		t.Errorf("%v, %d", l, err)
	}
	if l, err := p.Commit(2, nil, 1); err != api.OK || !slices.Equal(l, []int{api.MaxPages - 2, api.MaxPages - 1}) {
		t.Errorf("%v, %d", l, err)
	}
	if p.Count() != api.MaxPages || p.Room() != 0 {
		t.Errorf("count %d, room %d", p.Count(), p.Room())
	}
}
