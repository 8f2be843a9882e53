package cut_test

import (
	"slices"
	"testing"

	"coppice/api"
	"coppice/cut"
)

// wantJoin asks for the answer about two leaves, both ways round.
func wantJoin(t *testing.T, name string, a, b []api.Item, want bool) {
	t.Helper()
	if cut.JoinLeaves(a, b) != want || cut.JoinLeaves(b, a) != want {
		t.Errorf("JoinLeaves of %s: not %v", name, want)
	}
}

// wantJoinBranches asks for the answer about two branches, both ways round.
func wantJoinBranches(t *testing.T, name string, a [][]byte, sep string, b [][]byte, want bool) {
	t.Helper()
	if cut.JoinBranches(a, []byte(sep), b) != want || cut.JoinBranches(b, []byte(sep), a) != want {
		t.Errorf("JoinBranches of %s: not %v", name, want)
	}
}

func TestP9_4Examples(t *testing.T) {
	five, six := letters(5, 500), letters(6, 500)
	wantJoin(t, "two and three", five[:2], five[2:], true)
	wantJoin(t, "three and three", six[:3], six[3:], false)
	wantJoinBranches(t, "none, m, none", nil, "m", nil, true)
}

// 4 and 512 bytes and 6 five times, and 6 and the last value's: 2600 and that.
func TestP9_4LeavesAtTheEnd(t *testing.T) {
	for size := 380; size <= 420; size++ {
		items := append(letters(5, 512), sized("Z", size))
		for i := range len(items) + 1 {
			wantJoin(t, "2600 bytes and a value's", items[:i], items[i:], size <= 400)
		}
	}
}

func TestP9_4NoItems(t *testing.T) {
	wantJoin(t, "none and none", nil, nil, true)
	wantJoin(t, "none and none", []api.Item{}, nil, true)
	wantJoin(t, "one and none", letters(1, 512), nil, true)
	wantJoin(t, "five and none", letters(5, 500), nil, true)
	wantJoin(t, "six and none", letters(6, 500), []api.Item{}, false)
}

// Keys of both that begin alike: it counts once. Each part alone has more in common than both together.
func TestP9_4WhatKeysHaveInCommon(t *testing.T) {
	all := outliers(200, 0, 0)
	wantJoin(t, "200 that begin alike", all[:100], all[100:], true) // 2405 bytes
	wantJoin(t, "an outlier and 200 that begin alike", outliers(0, 1, 0), all, false)
	wantJoin(t, "an outlier and 13 that begin alike", outliers(0, 1, 0), all[:13], true)
	wantJoin(t, "an outlier and 15 that begin alike", outliers(0, 1, 0), all[:15], false)
}

func TestP9_4Leaves(t *testing.T) {
	next := noise(94)
	yes, no := 0, 0
	for _, items := range append(likely(), loose()...) {
		for _, i := range []int{0, len(items) / 2, next(len(items) + 1), len(items)} {
			want := plainLeafSize(items) <= 3000
			wantJoin(t, tellItems(items), items[:i], items[i:], want)
			if want {
				yes++
			} else {
				no++
			}
		}
	}
	if yes < 300 || no < 300 {
		t.Errorf("%d can be joined, %d can't", yes, no)
	}
}

// Only Size says how long a value is; below 0 it is 0, above MaxValue that.
func TestP9_4AnyItems(t *testing.T) {
	long := []api.Item{{Key: []byte("a"), Value: make([]byte, 4000)}}
	wantJoin(t, "a value that is not looked at", long, long, true)
	wantJoin(t, "a Size below 0", []api.Item{{Key: []byte("a"), Size: -1 << 62}}, letters(6, 500), false)
	wantJoin(t, "a Size above all", []api.Item{{Key: []byte("a"), Size: 1 << 62}}, letters(5, 500), true)
	wantJoin(t, "a key too long", bare(xs(2991)), nil, true) // and 9 bytes more
	wantJoin(t, "a key too long", bare(xs(2992)), nil, false)
}

// 13, and 11 and its bytes a separator: 26 of 100 bytes come to 2899, so one more may have 90 bytes.
func TestP9_4BranchesAtTheEnd(t *testing.T) {
	a, b := list(behind(99, "ABCDEFGHIJKLM")...), list(behind(99, "abcdefghijklm")...)
	for n := 60; n <= 120; n++ {
		want := 13+26*111+11+n <= 3000
		wantJoinBranches(t, "26 and one that goes between", a, "Y"+xs(n-1), b, want)
		wantJoinBranches(t, "27, and one of 100 bytes between", append(list("Y"+xs(n-1)), a[1:]...), string(a[0]), b, want)
	}
}

// The separator between them counts, one without bytes too: 11 and its own bytes.
func TestP9_4TheSeparatorCounts(t *testing.T) {
	a := list(behind(199, "ABCDEFGHIJKLMN")...) // 13 and 14 times 212: 2981
	wantJoinBranches(t, "2981 bytes and a separator of none", a[:7], "", a[7:], true)
	if !cut.JoinBranches(a[:7], nil, a[7:]) {
		t.Error("JoinBranches with a separator that is nil")
	}
	wantJoinBranches(t, "2981 bytes and a separator of 8", a[:7], "Z"+xs(7), a[7:], true)   // 3000
	wantJoinBranches(t, "2981 bytes and a separator of 9", a[:7], "Z"+xs(8), a[7:], false)  // 3001
	wantJoinBranches(t, "all ahead, and a separator of 8", a, "Z"+xs(7), nil, true)         // 3000
	wantJoinBranches(t, "all ahead, and a separator of 9", a, "Z"+xs(8), [][]byte{}, false) // 3001
	wantJoinBranches(t, "none, and a separator of 2975", nil, xs(2975), nil, true)          // 3000: all of it is the prefix
	wantJoinBranches(t, "none, and a separator of 2976", nil, xs(2976), nil, false)
	if !cut.JoinBranches(nil, nil, nil) {
		t.Error("JoinBranches of nothing at all")
	}
	b := make([][]byte, 271) // 13 and 11 times 271: 2994
	wantJoinBranches(t, "2994 bytes in all", b[:270], "", nil, true)
	wantJoinBranches(t, "3005 bytes in all", b[:200], "", b[200:], false)
}

// The separator between them as it stands: what it begins with counts too.
func TestP9_4WhatSeparatorsHaveInCommon(t *testing.T) {
	all := keysOf(outliers(200, 0, 0)) // 213 and 13 each, 200 less
	wantJoinBranches(t, "200 that begin alike", all[:99], string(all[99]), all[100:], true)
	wantJoinBranches(t, "one that begins otherwise between", all[:99], "z", all[100:], false)
	wantJoinBranches(t, "one without bytes between", all[:99], "", all[100:], false)
}

func TestP9_4Branches(t *testing.T) {
	next := noise(95)
	yes, no := 0, 0
	for _, seps := range append(likelySeps(), looseSeps()...) {
		if len(seps) == 0 {
			continue
		}
		for _, i := range []int{0, len(seps) / 2, next(len(seps)), len(seps) - 1} {
			want := plainBranchSize(seps) <= 3000
			wantJoinBranches(t, tell(seps), seps[:i], string(seps[i]), seps[i+1:], want)
			if want {
				yes++
			} else {
				no++
			}
		}
	}
	if yes < 300 || no < 300 {
		t.Errorf("%d can be joined, %d can't", yes, no)
	}
}

// Items right at the bound: the greatest that can be joined, and one byte more.
func TestP9_4OneByteMore(t *testing.T) {
	there := 0
	for _, items := range likely() {
		grown := growTo(slices.Clone(items))
		if plainLeafSize(grown) != 3000 {
			continue
		}
		there++
		half := len(grown) / 2
		wantJoin(t, tellItems(grown), grown[:half], grown[half:], true)
		grown[half].Key = append(slices.Clone(grown[half].Key), 'y')
		wantJoin(t, tellItems(grown), grown[:half], grown[half:], plainLeafSize(grown) <= 3000)
	}
	if there < 100 {
		t.Errorf("only %d lists of 3000 bytes", there)
	}
}

// growTo takes items away till they are not above 3000 bytes, and makes their values longer till they have just those.
func growTo(items []api.Item) []api.Item {
	for len(items) > 0 && plainLeafSize(items) > 3000 {
		items = items[1:]
	}
	for i := range items {
		if items[i].Size > 512 {
			continue
		}
		for items[i].Size < 512 && plainLeafSize(items) < 3000 {
			items[i].Size++
		}
	}
	return items
}
