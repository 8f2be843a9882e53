package chain_test

import (
	"bytes"
	"fmt"
	"slices"
	"testing"

	"coppice/api"
	"coppice/chain"
)

// mustEncodeData is the body of a page of data that may be.
func mustEncodeData(t *testing.T, p dataPage) []byte {
	t.Helper()
	b, err := chain.EncodeData(p.next, p.data)
	if err != api.OK {
		t.Fatalf("EncodeData%v: %d", p, err)
	}
	return b
}

// mustEncodeList is the body of a page of frees that may be.
func mustEncodeList(t *testing.T, p listPage) []byte {
	t.Helper()
	b, err := chain.EncodeList(p.next, p.list)
	if err != api.OK {
		t.Fatalf("EncodeList%v: %d", p, err)
	}
	return b
}

func TestP6_8ThereAndBack(t *testing.T) {
	next := noise(70)
	data, lists := likelyData(), likelyLists()
	for range 1000 {
		data = append(data, dataPage{0, anyData(next, 1+next(4085))}, dataPage{2 + next(524285), anyData(next, 4085)})
		lists = append(lists, listPage{0, anyList(next, next(1022))}, listPage{2 + next(524285), anyList(next, 1021)})
	}
	for _, p := range data {
		wantData(t, mustEncodeData(t, p), p)
	}
	for _, p := range lists {
		wantList(t, mustEncodeList(t, p), p)
	}
}

func TestP6_8BackAndThere(t *testing.T) {
	next := noise(71)
	data, lists := 0, 0
	turned := func(body []byte, used int) []byte {
		b := bytes.Clone(body)
		b[next(min(used, 20))] ^= 1 << next(8)
		b[next(used)] ^= byte(next(2))
		return b
	}
	for _, p := range likelyData() {
		body := mustEncodeData(t, p)
		for range 300 {
			b := turned(body, 7+len(p.data))
			back, got, err := chain.DecodeData(b)
			if err != api.OK {
				continue
			}
			data++
			wantDataBody(t, dataPage{back, got}, b)
		}
	}
	for _, p := range likelyLists() {
		body := mustEncodeList(t, p)
		for range 300 {
			b := turned(body, 7+4*len(p.list))
			back, got, err := chain.DecodeList(b)
			if err != api.OK {
				continue
			}
			lists++
			wantListBody(t, listPage{back, got}, b)
		}
	}
	if data < 1000 || lists < 1000 {
		t.Errorf("only %d and %d bodies were taken", data, lists)
	}
}

// alikeData are pages of data, each of which differs from another one in one thing alone.
func alikeData() []dataPage {
	l := likelyData()
	for _, p := range []dataPage{{0, []byte("abc")}, {0, []byte{0}}, {0, someBytes(4084)}, {0, someBytes(4085)}, {7, someBytes(4085)}} {
		if p.next == 0 && len(p.data) < 4085 {
			l = append(l, dataPage{0, append(bytes.Clone(p.data), 0)}, dataPage{0, append([]byte{0}, p.data...)})
		}
		for at := 0; at < len(p.data); at += 1 + at/9 {
			for _, x := range []byte{1, 128} {
				other := dataPage{p.next, bytes.Clone(p.data)}
				other.data[at] ^= x
				l = append(l, other)
			}
		}
	}
	for _, by := range []int{1, 2, 256, 65536} {
		l = append(l, dataPage{7 + by, someBytes(4085)})
	}
	return l
}

// alikeLists are pages of frees, each of which differs from another one in one thing alone.
func alikeLists() []listPage {
	l := likelyLists()
	for _, p := range []listPage{{0, []int{2}}, {0, []int{2, 5, 300}}, {0, someNumbers(2, 1021)}, {7, someNumbers(2, 1021)}} {
		last := len(p.list) - 1
		for _, by := range []int{1, 2, 256, 65536} {
			other := listPage{p.next, slices.Clone(p.list)}
			other.list[last] += by
			l = append(l, other)
		}
		if p.next == 0 {
			l = append(l, listPage{0, p.list[:last]}, listPage{0, p.list[1:]})
		}
	}
	for _, by := range []int{1, 2, 256, 65536} {
		l = append(l, listPage{7 + by, someNumbers(2, 1021)})
	}
	return l
}

func TestP6_8UnlikePagesHaveUnlikeBodies(t *testing.T) {
	seen := map[string]string{}
	// What a page is told by tells all of it: unlike pages are told unlike.
	see := func(body []byte, page string) {
		if other, ok := seen[string(body)]; ok && other != page {
			t.Errorf("one body of %.40s and of %.40s", page, other)
		}
		seen[string(body)] = page
	}
	for _, p := range alikeData() {
		see(mustEncodeData(t, p), fmt.Sprintf("data %d %x", p.next, p.data))
	}
	for _, p := range alikeLists() {
		see(mustEncodeList(t, p), fmt.Sprintf("list %d %v", p.next, p.list))
	}
}

func TestP6_8ABodyOfDataIsNoneOfFrees(t *testing.T) {
	for _, p := range alikeData() {
		wantNoList(t, "a page of data", mustEncodeData(t, p))
	}
	for _, p := range alikeLists() {
		wantNoData(t, "a page of frees", mustEncodeList(t, p))
	}
	// But for its kind this is a body of both.
	rest := []byte{0, 0, 0, 0, 4, 0, 9, 0, 0, 0}
	wantNoList(t, "data that would be numbers", padded(t, append([]byte{3}, rest...)))
	wantNoData(t, "numbers that would be data", padded(t, append([]byte{4}, rest...)))
}

func TestP6_8Pieces(t *testing.T) {
	next := noise(72)
	sizes := []int{0, 1, 511, 512, 513, 4084, 4085, 4086, 8170, 8171, 261440, 261441, 262143, 262144, 262145, 300000}
	for range 100 {
		sizes = append(sizes, next(270000))
	}
	for _, size := range sizes {
		value := anyData(next, size)
		pieces := chain.Pieces(value)
		if len(pieces) != chain.Pages(size) {
			t.Errorf("%d bytes have %d pieces, not %d", size, len(pieces), chain.Pages(size))
		}
		if len(pieces) > 0 && !bytes.Equal(bytes.Join(pieces, nil), value) {
			t.Errorf("the pieces of %d bytes, one behind the other, are another value", size)
		}
	}
}

// A value laid out as a chain, each piece but the last one with a next, and read back page by page.
func TestP6_8AChain(t *testing.T) {
	for _, size := range []int{513, 4085, 4086, 8170, 8171, 100000, 261440, 261441, 262144} {
		value := someBytes(size)
		pieces := chain.Pieces(value)
		file := map[int][]byte{}
		for i, piece := range pieces {
			p := dataPage{0, piece}
			if i < len(pieces)-1 {
				p.next = 100 - i - 1
			}
			file[100-i] = mustEncodeData(t, p)
		}
		var back []byte
		for no := 100; no != 0; {
			next, data, err := chain.DecodeData(file[no])
			if err != api.OK {
				t.Fatalf("the page %d of a chain of %d bytes: %d", no, size, err)
			}
			no, back = next, append(back, data...)
		}
		if !bytes.Equal(back, value) {
			t.Errorf("a chain of %d bytes reads as %d others", size, len(back))
		}
	}
}
