package explore_test

import (
	"fmt"
	"testing"

	"coppice/api"
)

// expected are how many crashes a Commit of so many pages has: what pends grows by one a page and once more at the slot's zeros, stays at the Sync, and is the head alone behind it, twice.
func expected(need, c int) int {
	if need == 0 {
		return 0
	}
	n := 0
	for m := 1; m <= need+1; m++ {
		n += powerOf(c, m)
	}
	return n + powerOf(c, need+1) + 2*c
}

// follows asks what follows of one call on an accepted file; it tells how many crashes there were.
func follows(t *testing.T, what string, b []byte, room int, l []api.Change, tears []int) int {
	t.Helper()
	got := asked(b, room, l, tears)
	if got.err != api.OK {
		if got != (answer{err: got.err}) {
			t.Errorf("%s: beside an error %v", what, got)
		}
		return 0
	}
	_, s, _ := begin(b, room)
	old := all(s)
	change(s, l)
	differs := !samePairs(old, all(s))
	if want := expected(s.Need(), 2+len(tears)); got.all != want {
		t.Errorf("%s: %d crashes, not %d", what, got.all, want)
	}
	switch {
	case got.odd != "" || got.all != got.old+got.fresh:
		t.Errorf("%s: %v: a crash leaves another map", what, got)
	case differs && (got.old == 0 || got.fresh == 0):
		t.Errorf("%s: %v, though the new map is unlike the old one", what, got)
	case differs && len(tears) == 0 && got.fresh != 2:
		t.Errorf("%s: %v: with no tears just two leave the new map", what, got)
	case !differs && got.fresh != 0:
		t.Errorf("%s: %v, though the new map is the old one", what, got)
	}
	return got.all
}

// TestP25_5Whole: of an accepted file each crash leaves the old map or the new one.
func TestP25_5Whole(t *testing.T) {
	t.Parallel()
	next := noise(5)
	crashes := 0
	for i := range 90 {
		b := file(t, next)
		l := changes(next, next(5))
		var tears []int
		for range next(4) {
			tears = append(tears, []int{1, 17, 2048, 4091, 4092, 4094, 4095, 1 + next(4095)}[next(8)])
		}
		room := len(b)/4096 + next(20)
		if heavy(b, room, l, tears) {
			continue
		}
		crashes += follows(t, fmt.Sprint("file ", i), b, room, l, tears)
	}
	if crashes < 5000 {
		t.Errorf("only %d crashes were looked at", crashes)
	}
}

// TestP25_5EachTear: wherever the writes are torn.
func TestP25_5EachTear(t *testing.T) {
	t.Parallel()
	b := grown(t, []api.Change{put("a", []byte("x"))})
	for at := 1; at < 4096; at++ {
		if at > 60 && at < 4070 && at%797 != 0 {
			continue // nothing but zeros stands there
		}
		follows(t, fmt.Sprint("torn at ", at), b, 10, []api.Change{put("a", []byte("y"))}, []int{at})
	}
}

// TestP25_5Nothing: a Commit that writes nothing has no crash.
func TestP25_5Nothing(t *testing.T) {
	b := grown(t, []api.Change{put("a", []byte("x"))})
	for i, l := range [][]api.Change{nil, {gone("b")}, {gone("b"), gone("c")}} {
		is(t, fmt.Sprint("changes ", i), b, 10, l, []int{1, 2, 3, 4}, answer{})
	}
}

// TestP25_5Onward: a life of commits, each of which is explored ahead of being done.
func TestP25_5Onward(t *testing.T) {
	t.Parallel()
	next := noise(55)
	b := formatted(t)
	for i := range 50 {
		l := changes(next, 1+next(3))
		if !heavy(b, 60, l, nil) {
			follows(t, fmt.Sprint("commit ", i), b, 60, l, nil)
		}
		d, s, err := begin(b, 60)
		if err != api.OK {
			t.Fatalf("commit %d: the error %d", i, err)
		}
		change(s, l)
		s.Commit() // where there is no room the file stays as it is
		b = d.Durable()
	}
}
