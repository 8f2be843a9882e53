package cut_test

import (
	"testing"

	"coppice/branch"
	"coppice/cut"
)

// wantBranch asks that a branch of these separators is cut there.
func wantBranch(t *testing.T, name string, seps [][]byte, want int) {
	t.Helper()
	if got := cut.Branch(seps); got != want {
		t.Errorf("Branch of %s = %d, not %d", name, got, want)
	}
}

func TestP9_3Examples(t *testing.T) {
	three := list(behind(99, "abc")...)
	if a, b := branch.Size(three[:1]), branch.Size(three[2:]); a != 124 || b != 124 {
		t.Fatalf("sizes %d, %d", a, b)
	}
	wantBranch(t, "three separators of 100 bytes", three, 2)
	wantBranch(t, "one separator", list("m"), 1)
	wantBranch(t, "none", nil, 0)
	wantBranch(t, "none", [][]byte{}, 0)
}

// Separators that are all alike: the middle one goes up, or the first of the two middles.
func TestP9_3TheLeastOfSeveral(t *testing.T) {
	const names = "ABCDEFGHIJKLMNOPQRSTUVWXYZ"
	for n := 1; n <= len(names); n++ {
		for _, length := range []int{0, 99, 200} {
			wantBranch(t, "separators that are alike", list(behind(length, names[:n])...), (n+1)/2)
		}
	}
	wantBranch(t, "two", list("a", "b"), 1)
	wantBranch(t, "two, the first one greater", list("a"+xs(99), "b"), 1)
	wantBranch(t, "two, the last one greater", list("a", "b"+xs(99)), 2)
	wantBranch(t, "a great one last", list("a", "b", "c", "d"+xs(99)), 4)
	wantBranch(t, "a great one first", list("a"+xs(99), "b", "c", "d"), 1)
}

// One separator comes to its bytes and 25 (of 128 at least): one of 4067 bytes is a full branch.
func TestP9_3BothPartsMustFit(t *testing.T) {
	full, over := xs(4067), xs(4068)
	if a, b := branch.Size(list(full)), branch.Size(list(over)); a != 4092 || b != 4093 {
		t.Fatalf("sizes %d, %d", a, b)
	}
	wantBranch(t, "two full ones beside a small one", list(full, "a", full), 2)
	wantBranch(t, "one too big, first", list(over, "a", full), 0)
	wantBranch(t, "one too big, last", list(full, "a", over), 0)
	wantBranch(t, "two full ones", list(full, full), 1)
	wantBranch(t, "two, the second one full", list(over, full), 1)
	wantBranch(t, "two, the first one full", list(full, over), 2)
	wantBranch(t, "two too big", list(over, over), 0)
	wantBranch(t, "four full ones", list(full, "a"+full[1:], "b"+full[1:], "c"+full[1:]), 0)
}

// The separator that goes up stands in neither part: it may have any length.
func TestP9_3TheOneThatGoesUpMayBeAny(t *testing.T) {
	over := xs(10000)
	wantBranch(t, "one too big alone", list(over), 1)
	wantBranch(t, "one too big in the middle", list("a", over, "b"), 2)
	wantBranch(t, "one too big at the beginning", list(over, "a", "b", "c"), 1)
	wantBranch(t, "one too big at the end", list("a", "b", "c", over), 4)
	wantBranch(t, "one too big off the middle", list("a", over, "c", "d", "e", "f"), 2)
}

// Separators without bytes have 11 each, and the branch 13 more: 370 of them come to 4083.
func TestP9_3ManySmallOnes(t *testing.T) {
	for n, want := range map[int]int{370: 185, 371: 186, 740: 370, 741: 371, 742: 0, 743: 0} {
		wantBranch(t, "separators without bytes", make([][]byte, n), want)
	}
}

// What the separators of a part have in common counts once in it.
func TestP9_3WhatSeparatorsHaveInCommon(t *testing.T) {
	for _, n := range []int{20, 140, 250, 300, 340} {
		for _, out := range [][2]int{{0, 0}, {1, 0}, {0, 1}, {1, 1}, {2, 5}} {
			seps := keysOf(outliers(n, out[0], out[1]))
			wantBranch(t, "outliers", seps, plainBranch(seps))
		}
	}
	// Two beginnings, and one that has neither goes up between them.
	var two [][]byte
	for _, head := range []string{"a", "b", "c"} {
		for i := range 40 {
			if head != "b" || i == 0 {
				two = append(two, []byte(head+xs(200)+string(rune('0'+i))))
			}
		}
	}
	wantBranch(t, "two beginnings", two, 41)
}

func TestP9_3SeparatorsThatRise(t *testing.T) {
	cuts, none := 0, 0
	for _, seps := range likelySeps() {
		want := plainBranch(seps)
		wantBranch(t, tell(seps), seps, want)
		if want > 0 {
			cuts++
		} else {
			none++
		}
	}
	if cuts < 100 || none < 20 {
		t.Errorf("only %d cuts, and %d lists without one", cuts, none)
	}
}

// Nothing asks whether separators rise, or are keys.
func TestP9_3AnySeparators(t *testing.T) {
	cuts := 0
	for _, seps := range looseSeps() {
		want := plainBranch(seps)
		wantBranch(t, tell(seps), seps, want)
		if want > 0 {
			cuts++
		}
	}
	if cuts < 100 {
		t.Errorf("only %d cuts", cuts)
	}
}

// Of each number of separators from 0 on, all that begin a list, and all that end it.
func TestP9_3EachNumber(t *testing.T) {
	next := noise(93)
	for _, most := range []int{8, 60, 200} {
		seps := shape{head: []byte("head"), least: 1, most: most, values: []int{0}}.seps(next, 90)
		for n := range seps {
			wantBranch(t, tell(seps[:n]), seps[:n], plainBranch(seps[:n]))
			wantBranch(t, tell(seps[n:]), seps[n:], plainBranch(seps[n:]))
		}
	}
}

// So many separators never fit; the call ends all the same.
func TestP9_3VeryMany(t *testing.T) {
	seps := make([][]byte, 300000)
	for i := range seps {
		seps[i] = []byte("abc")[:i%4]
	}
	wantBranch(t, "300000 separators", seps, 0)
}
