package leaf_test

import (
	"bytes"
	"encoding/hex"
	"math"
	"slices"
	"strings"
	"testing"

	"coppice/api"
	"coppice/leaf"
)

// wantBody asks that Encode answers the bytes, and zeros behind them.
func wantBody(t *testing.T, items []api.Item, want []byte) {
	t.Helper()
	b, err := leaf.Encode(items)
	if err != api.OK || !bytes.Equal(b, padded(t, want)) {
		t.Errorf("Encode(%s): %d, %d bytes, %x", tell(items), err, len(b), b[:min(len(b), 40)])
	}
}

// wantError asks that Encode answers the error, and no body.
func wantError(t *testing.T, items []api.Item, want api.Errno) {
	t.Helper()
	if b, err := leaf.Encode(items); err != want || b != nil {
		t.Errorf("Encode(%s): %d and %d bytes, not %d", tell(items), err, len(b), want)
	}
}

func TestP4_2Examples(t *testing.T) {
	for _, c := range []struct {
		items []api.Item
		want  string
	}{
		{[]api.Item{inline("a", "x")}, "01 0100 01 61 0700 00 02 78"},
		{[]api.Item{inline("ab", ""), inline("abc", "yz")}, "01 0200 02 6162 0a00 0c00 00 00 01 63 04 797a"},
		{[]api.Item{inline("a", "x"), inline("b", "y")}, "01 0200 00 0800 0c00 01 61 02 78 01 62 02 79"},
		{[]api.Item{chained("k", 600, 9)}, "01 0100 01 6b 0700 00 b109 09000000"},
		{[]api.Item{chained("k", 262144, 524286)}, "01 0100 01 6b 0700 00 818020 feff0700"},
		{[]api.Item{inline("\xff", "\xfe"), inline("\xff\x00", "")}, "01 0200 01 ff 0900 0c00 00 02 fe 01 00 00"},
	} {
		want, err := hex.DecodeString(strings.ReplaceAll(c.want, " ", ""))
		if err != nil {
			t.Fatal(err)
		}
		wantBody(t, c.items, want)
	}
}

func TestP4_2TheExamplesErrors(t *testing.T) {
	wantError(t, nil, api.ErrLeaf)
	wantError(t, []api.Item{}, api.ErrLeaf)
	wantError(t, []api.Item{inline("", "x")}, api.ErrSize)
	wantError(t, []api.Item{chained("k", 600, 1)}, api.ErrLeaf)
	wantError(t, []api.Item{inline("b", ""), inline("a", "")}, api.ErrOrder)
	wantError(t, []api.Item{inline("a", ""), inline("a", "")}, api.ErrOrder)
	wantError(t, []api.Item{{Key: []byte("a"), Value: []byte("x"), Size: 1, First: 5}}, api.ErrLeaf)
	wantError(t, []api.Item{{Key: []byte("a"), Value: []byte("x"), Size: 2}}, api.ErrLeaf)
	var eight []api.Item
	for _, k := range strings.Split("abcdefgh", "") {
		eight = append(eight, sized(k, 510))
	}
	wantError(t, eight, api.ErrTooBig)
	wantBody(t, eight[:7], draftOf(eight[:7], 0).bytes())
}

func TestP4_2Bodies(t *testing.T) {
	for _, items := range likely() {
		wantBody(t, items, plainBody(t, items))
	}
}

func TestP4_2AnyItems(t *testing.T) {
	next := noise(42)
	for range 3000 {
		items := anyItems(next, 1+next(30))
		if plainSize(items) > 4092 {
			wantError(t, items, api.ErrTooBig)
			continue
		}
		wantBody(t, items, plainBody(t, items))
	}
}

// around are items that may be on both sides of one that may not.
func around(it api.Item) [][]api.Item {
	before, behind := inline("A", "x"), inline("zzz", "y")
	return [][]api.Item{{it}, {it, behind}, {before, it}, {before, it, behind}}
}

func TestP4_2KeyLengths(t *testing.T) {
	for _, n := range []int{1, 2, 127, 128, 254, 255} {
		for _, items := range around(inline(xs(n), "v")) {
			wantBody(t, items, plainBody(t, items))
		}
	}
	for _, n := range []int{0, 256, 257, 5000} {
		for _, items := range around(inline(xs(n), "v")) {
			wantError(t, items, api.ErrSize)
		}
	}
	wantError(t, []api.Item{{Size: 0}}, api.ErrSize)
}

func TestP4_2Sizes(t *testing.T) {
	for _, n := range []int{0, 1, 63, 64, 511, 512} {
		for _, items := range around(sized("k", n)) {
			wantBody(t, items, plainBody(t, items))
		}
	}
	for _, n := range []int{513, 8191, 8192, 262143, 262144} {
		for _, items := range around(chained("k", n, 7)) {
			wantBody(t, items, plainBody(t, items))
		}
	}
	for _, n := range []int{-1, math.MinInt, 262145, 1 << 32, math.MaxInt} {
		for _, first := range []int{0, 2, 7} {
			for _, items := range around(chained("k", n, first)) {
				wantError(t, items, api.ErrSize)
			}
		}
	}
	// A value that is there does not make its size one that may be.
	long := sized("k", 262145)
	wantError(t, []api.Item{long}, api.ErrSize)
}

func TestP4_2ValuesInTheItem(t *testing.T) {
	for _, size := range []int{0, 1, 2, 511, 512} {
		for _, have := range []int{0, 1, 2, 3, 510, 511, 512, 513, 600} {
			it := sized("k", have)
			it.Size = size
			if have == size {
				continue
			}
			for _, items := range around(it) {
				wantError(t, items, api.ErrLeaf)
			}
		}
		for _, first := range []int{math.MinInt, -1, 1, 2, 5, 524286, math.MaxInt} {
			it := sized("k", size)
			it.First = first
			for _, items := range around(it) {
				wantError(t, items, api.ErrLeaf)
			}
		}
	}
}

func TestP4_2Chains(t *testing.T) {
	for _, size := range []int{513, 600, 262144} {
		for _, first := range []int{2, 3, 255, 256, 65535, 65536, 524285, 524286} {
			for _, items := range around(chained("k", size, first)) {
				wantBody(t, items, plainBody(t, items))
			}
		}
		for _, first := range []int{math.MinInt, -1, 0, 1, 524287, 524288, 1 << 32, 1<<32 + 2, math.MaxInt} {
			for _, items := range around(chained("k", size, first)) {
				wantError(t, items, api.ErrLeaf)
			}
		}
		for _, have := range []int{1, 512, size} {
			it := chained("k", size, 9)
			it.Value = make([]byte, have)
			for _, items := range around(it) {
				wantError(t, items, api.ErrLeaf)
			}
		}
		// A long value that stands in its item all the same.
		for _, items := range around(sized("k", size)) {
			wantError(t, items, api.ErrLeaf)
		}
	}
}

func TestP4_2Order(t *testing.T) {
	for _, keys := range []string{"b a", "a a", "ab a", "a b b", "a c b", "b a c", "a b c d d", "a b d c e", "aa ab aa", "\x80 \x7f", "b ab"} {
		var items []api.Item
		for _, k := range strings.Fields(keys) {
			items = append(items, inline(k, "v"))
		}
		wantError(t, items, api.ErrOrder)
	}
	for _, keys := range []string{"a aa", "a b", "ab b", "\x7f \x80", "a aa ab b"} {
		var items []api.Item
		for _, k := range strings.Fields(keys) {
			items = append(items, inline(k, "v"))
		}
		wantBody(t, items, plainBody(t, items))
	}
}

// Wherever they stand: an error of the whole list is named ahead of a later one of the chapter.
func TestP4_2TheFirstErrorThatHolds(t *testing.T) {
	wrongSize := []api.Item{inline("", "x"), inline(xs(256), "x"), chained("k", -1, 0), chained("k", 262145, 2)}
	wrongValue := []api.Item{chained("k", 600, 1), chained("k", 5, 0), {Key: []byte("k"), Value: []byte("x"), Size: 1, First: 5}}
	falling := []api.Item{inline("y", ""), inline("x", "")}
	big := strings.Split("abcdefghi", "")
	var tooBig []api.Item
	for _, k := range big {
		tooBig = append(tooBig, sized(k, 512))
	}
	wantError(t, tooBig, api.ErrTooBig)
	for _, f := range [][]api.Item{falling, tooBig, slices.Concat(tooBig, falling), slices.Concat(falling, tooBig)} {
		for _, v := range wrongValue {
			wantError(t, slices.Concat([]api.Item{v}, f), api.ErrLeaf)
			wantError(t, slices.Concat(f, []api.Item{v}), api.ErrLeaf)
			for _, s := range wrongSize {
				wantError(t, slices.Concat([]api.Item{v}, f, []api.Item{s}), api.ErrSize)
				wantError(t, slices.Concat([]api.Item{s}, f, []api.Item{v}), api.ErrSize)
				wantError(t, slices.Concat(f, []api.Item{v, s}), api.ErrSize)
				wantError(t, slices.Concat(f, []api.Item{s, v}), api.ErrSize)
			}
		}
	}
	wantError(t, slices.Concat(tooBig, falling[1:], falling[1:]), api.ErrOrder)
	wantError(t, slices.Concat(tooBig, falling), api.ErrOrder)
	// Of one item: its size counts ahead of its value.
	wantError(t, []api.Item{{Key: nil, Value: []byte("x"), Size: 2, First: 9}}, api.ErrSize)
	wantError(t, []api.Item{{Key: []byte("k"), Value: []byte("x"), Size: -1, First: 9}}, api.ErrSize)
}

func TestP4_2AnyWrongItems(t *testing.T) {
	next := noise(43)
	sizes := []int{-1, 0, 0, 1, 1, 2, 512, 513, 262144, 262145}
	got := map[api.Errno]int{}
	for range 20000 {
		var items []api.Item
		for range next(4) {
			it := api.Item{Key: anyKey(next, 0, 3), Size: sizes[next(len(sizes))]}
			switch {
			case next(8) == 0:
				it.Value, it.First = anyKey(next, 0, 2), next(4)
			case it.Size > 512:
				it.First = 2 + next(3)
			default:
				it.Value = make([]byte, max(it.Size, 0))
			}
			items = append(items, it)
		}
		want := plainError(items)
		got[want]++
		if want == api.OK {
			wantBody(t, items, plainBody(t, items))
		} else {
			wantError(t, items, want)
		}
	}
	if len(got) != 4 {
		t.Errorf("not every error came up: %v", got)
	}
}

func TestP4_2JustFits(t *testing.T) {
	for _, items := range [][]api.Item{full(), fullChained()} {
		if n := leaf.Size(items); n != api.BodySize {
			t.Fatalf("Size %d", n)
		}
		wantBody(t, items, plainBody(t, items))
		more := slices.Clone(items)
		for i, it := range more {
			// 64 bytes on: a longer value does not make the tag longer too.
			if it.Size >= 64 && it.Size < 512 {
				more[i] = sized(string(it.Key), it.Size+1)
				break
			}
		}
		if n := leaf.Size(more); n != api.BodySize+1 {
			t.Fatalf("Size %d", n)
		}
		wantError(t, more, api.ErrTooBig)
	}
}

func TestP4_2Crowds(t *testing.T) {
	wantBody(t, crowd(467), plainBody(t, crowd(467)))
	wantError(t, crowd(468), api.ErrTooBig)
	many := make([]api.Item, 70000)
	for i := range many {
		many[i] = inline(string([]byte{byte(i >> 16), byte(i >> 8), byte(i)}), "")
	}
	wantError(t, many, api.ErrTooBig)
}
