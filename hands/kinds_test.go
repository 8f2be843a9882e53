package hands_test

import (
	"bytes"
	"fmt"
	"math"
	"slices"
	"testing"

	"coppice/api"
	"coppice/check"
	"coppice/crc"
	"coppice/hands"
)

func TestExamples(t *testing.T) {
	kindsAre(t, "no bytes", nil, 1, nil, api.ErrFile)
	kindsAre(t, "4097 bytes", make([]byte, 4097), 1, nil, api.ErrFile)
	for _, b := range [][]byte{nil, make([]byte, 4097), make([]byte, 8192), formatted(t)} {
		kindsAre(t, "no hand", b, 0, nil, api.ErrHands)
		kindsAre(t, "too many hands", b, 17, nil, api.ErrHands)
	}
	kindsAre(t, "zeros", make([]byte, 8192), 3, []int{0, 0}, api.OK)
	kindsAre(t, "formatted", formatted(t), 2, []int{0, 5}, api.OK)
	checkIs(t, "formatted", formatted(t), 2, 1, verdict{0, api.ErrMore})
	checkIs(t, "formatted", formatted(t), 2, 2, verdict{0, api.OK})
	checkIs(t, "formatted", formatted(t), 2, -1, verdict{0, api.ErrHands})
	checkIs(t, "no bytes", nil, 1, 0, verdict{0, api.ErrFile})
}

// wrongHands are numbers of hands that may not be.
func wrongHands() []int {
	return []int{math.MinInt, math.MinInt + 1, -1 << 32, -16, -1, 0, 17, 18, 255, 256, 257, 1<<16 + 1, 1<<32 + 1, math.MaxInt}
}

// TestP16_1Hands: how many hands may be is asked ahead of the file.
func TestP16_1Hands(t *testing.T) {
	for _, b := range [][]byte{nil, {}, make([]byte, 1), make([]byte, 4096), make([]byte, 8193), make([]byte, 8192), whole(t), broken(whole(t), 1)} {
		for _, n := range wrongHands() {
			kindsAre(t, "wrong hands", b, n, nil, api.ErrHands)
		}
	}
	for n := 1; n <= api.MaxHands; n++ {
		kindsAre(t, "each number of hands", whole(t), n, []int{0, 5, 1, 3, 4, 0}, api.OK)
	}
}

// TestP16_1Lengths: a file is of pages, of two at least.
func TestP16_1Lengths(t *testing.T) {
	b := whole(t)
	for _, n := range []int{1, 5, 16} {
		for _, size := range []int{0, 1, 2, 4092, 4095, 4096, 4097, 8191, 8193, 3*4096 - 1, 3*4096 + 1, 5*4096 + 2048, 6*4096 - 1} {
			kindsAre(t, "no file", b[:size:size], n, nil, api.ErrFile)
		}
		for pages, want := 2, []int{0, 5, 1, 3, 4, 0}; pages <= 6; pages++ {
			kindsAre(t, "a file cut short", b[:pages*4096], n, want[:pages], api.OK)
		}
	}
}

// TestP16_1Places: a page of each kind, and pages that are none, at each place: the kind tells nothing of whether the page is used, or rightly.
func TestP16_1Places(t *testing.T) {
	branch := api.Page{Kind: api.Branch, Level: 15, Kids: []api.Kid{{No: 2, Keys: 1}}}
	data := api.Page{Kind: api.Chain, Data: []byte("abc")}
	all := file(t, leafOf("k"), branch, data, freesOf(), freesOf(2, 5, 300), metaOf(api.Head{Version: 1, Count: 2}), metaOf(api.Head{Version: api.MaxVersion, Count: 9, Root: 8, Height: 16, Keys: 7}))
	kinds := []int{1, 2, 3, 4, 4, 5, 5}
	for first := byte(0); first < 7; first++ { // right sums over bodies that no kind has
		body := bytes.Repeat([]byte{0x5a}, 4092)
		body[0] = first
		sealed, _ := crc.Seal(body)
		all, kinds = append(all, sealed...), append(kinds, 0)
	}
	all, kinds = append(all, broken(all[:7*4096], 0, 1, 2, 3, 4, 5, 6)...), append(kinds, 0, 0, 0, 0, 0, 0, 0)
	for turn := range kinds {
		b := slices.Concat(all[turn*4096:], all[:turn*4096])
		want := slices.Concat(kinds[turn:], kinds[:turn])
		for n := 1; n <= 16; n++ {
			kindsAre(t, fmt.Sprint("from page ", turn), b, n, want, api.OK)
		}
	}
}

// TestP16_1Plain: files by noise, whose pages are broken here and there, page by page.
func TestP16_1Plain(t *testing.T) {
	t.Parallel()
	next := noise(161)
	for i, b := range woods(t) {
		for range 4 {
			n := 1 + next(16)
			want, err := plainKinds(b, n)
			kindsAre(t, fmt.Sprint("file ", i), b, n, want, err)
			b = broken(b, next(len(b)/4096), next(len(b)/4096))
		}
	}
}

// TestP16_5Accepted: in an accepted file the pages that are reached, those of frees and the head's slot have kinds.
func TestP16_5Accepted(t *testing.T) {
	t.Parallel()
	seen := map[int]int{}
	for i, b := range woods(t) {
		f, at, err := check.Open(b)
		if err != api.OK {
			t.Fatalf("file %d is not accepted: %d at %d", i, err, at)
		}
		kinds, err := hands.Kinds(b, 1+i%16)
		if err != api.OK {
			t.Fatalf("file %d: Kinds answers %d", i, err)
		}
		if slot := f.Head().Version % 2; kinds[slot] != api.Meta {
			t.Errorf("file %d: slot %d has the kind %d", i, slot, kinds[slot])
		}
		for _, no := range f.Tree().Numbers() {
			seen[kinds[no]]++
			if k := kinds[no]; k != api.Leaf && k != api.Branch && k != api.Chain {
				t.Errorf("file %d: page %d is reached, and has the kind %d", i, no, k)
			}
		}
		for _, no := range f.Lists() {
			seen[kinds[no]]++
			if kinds[no] != api.Frees {
				t.Errorf("file %d: page %d is one of frees, and has the kind %d", i, no, kinds[no])
			}
		}
	}
	if len(seen) != 4 {
		t.Errorf("only these kinds come: %v", seen)
	}
}
