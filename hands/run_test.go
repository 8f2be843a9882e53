package hands_test

import (
	"bytes"
	"fmt"
	"runtime"
	"slices"
	"sync"
	"testing"
	"time"

	"coppice/api"
	"coppice/hands"
)

// TestP16_3Ended: no goroutine goes on behind a call, whatever it answers. (One that has told that it is done may need a moment to go.)
func TestP16_3Ended(t *testing.T) {
	b := whole(t)
	files := [][]byte{nil, make([]byte, 8192), b, broken(b, 1), broken(b, 0, 1, 2, 3, 4, 5), b[:5*4096], append(slices.Clone(b), 1)}
	before := runtime.NumGoroutine()
	for range 20 {
		for _, b := range files {
			for n := range 18 {
				hands.Kinds(b, n)
				hands.Check(b, n, 6)
				hands.Check(b, n, 2)
			}
		}
	}
	for range 200 {
		if runtime.NumGoroutine() <= before {
			return
		}
		time.Sleep(10 * time.Millisecond)
	}
	t.Errorf("%d goroutines, %d ahead of the calls", runtime.NumGoroutine(), before)
}

// TestP16_3NotKept: what is handed in may be written over as soon as the call has answered, and what was answered stays.
func TestP16_3NotKept(t *testing.T) {
	b := append(whole(t), 1, 2, 3)[:6*4096]
	want := []int{0, 5, 1, 3, 4, 0}
	var lists [][]int
	for n := 1; n <= 16; n++ {
		c := bytes.Clone(b[:cap(b)])[:len(b)]
		l, _ := hands.Kinds(c, n)
		hands.Check(c, n, 9)
		for i := range c[:cap(c)] {
			c[:cap(c)][i] += 101
		}
		lists = append(lists, l)
	}
	for i, l := range lists {
		if !slices.Equal(l, want) {
			t.Fatalf("%d hands: %v", i+1, l)
		}
		l = append(l, 9)[:cap(l)]
		for k := range l {
			l[k] += 101
		}
		for k := range lists[i][:cap(lists[i])] {
			lists[i][:cap(lists[i])][k] += 101
		}
	}
	kindsAre(t, "behind what was written into the lists", b, 3, want, api.OK)
}

// answers are all that is answered to a file by so many hands.
func answers(b []byte, n int, limits []int) string {
	kinds, err := hands.Kinds(b, n)
	told := fmt.Sprint(kinds, int(err))
	for _, limit := range limits {
		at, err := hands.Check(b, n, limit)
		told += fmt.Sprint(" ", at, int(err))
	}
	return told
}

// TestP16_4Same: however many hands there are, on however many processors, the answer is the same, call by call.
func TestP16_4Same(t *testing.T) {
	next := noise(4)
	all := woods(t)
	for i := range all {
		all = append(all, broken(all[i], next(len(all[i])/4096)))
	}
	was := runtime.GOMAXPROCS(0)
	defer runtime.GOMAXPROCS(was)
	for i, b := range all {
		pages := len(b) / 4096
		limits := []int{0, 2, pages - 1, pages, api.MaxPages}
		want := ""
		for _, processors := range []int{1, 2, was} {
			runtime.GOMAXPROCS(processors)
			for n := 1; n <= 16; n++ {
				got := answers(b, n, limits)
				if want == "" {
					want = got
				}
				if got != want {
					t.Fatalf("file %d, %d hands, %d processors: %s, not %s", i, n, processors, got, want)
				}
			}
		}
	}
}

// TestP16_4AtOneTime: calls that are made at one time do not see one another.
func TestP16_4AtOneTime(t *testing.T) {
	t.Parallel()
	all := woods(t)
	want := make([]string, len(all))
	limits := []int{1, 6, api.MaxPages}
	for i, b := range all {
		want[i] = answers(b, 1, limits)
	}
	got := make([]string, 8*len(all))
	var group sync.WaitGroup
	for i := range got {
		group.Go(func() { got[i] = answers(all[i%len(all)], 1+i%16, limits) })
	}
	group.Wait()
	for i := range got {
		if got[i] != want[i%len(all)] {
			t.Errorf("call %d: %.200s, not %.200s", i, got[i], want[i%len(all)])
		}
	}
}
