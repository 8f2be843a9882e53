package chain_test

import (
	"bytes"
	"math"
	"slices"
	"testing"

	"coppice/api"
	"coppice/chain"
)

// wantListBody asks that EncodeList answers the body.
func wantListBody(t *testing.T, p listPage, want []byte) {
	t.Helper()
	b, err := chain.EncodeList(p.next, p.list)
	if err != api.OK || !bytes.Equal(b, want) {
		t.Errorf("EncodeList%v: %d, %d bytes, %x", p, err, len(b), b[:min(len(b), 20)])
	}
}

// wantListError asks that EncodeList answers the error, and no body.
func wantListError(t *testing.T, p listPage, want api.Errno) {
	t.Helper()
	if b, err := chain.EncodeList(p.next, p.list); err != want || b != nil {
		t.Errorf("EncodeList%v: %d and %d bytes, not %d", p, err, len(b), want)
	}
}

// wantList asks that DecodeList answers the page.
func wantList(t *testing.T, body []byte, want listPage) {
	t.Helper()
	next, list, err := chain.DecodeList(body)
	if got := (listPage{next, list}); err != api.OK || !got.same(want) {
		t.Errorf("DecodeList(%x): %d, %v, not %v", body[:min(len(body), 20)], err, got, want)
	}
}

// wantNoList asks that DecodeList answers ErrFrees, and nothing beside it.
func wantNoList(t *testing.T, what string, body []byte) {
	t.Helper()
	if next, list, err := chain.DecodeList(body); err != api.ErrFrees || next != 0 || list != nil {
		t.Errorf("%s: DecodeList(%x): %d, %v", what, body[:min(len(body), 20)], err, listPage{next, list})
	}
}

// wantListAsPlain asks that DecodeList answers what a strict reading does, and tells whether it is a body.
func wantListAsPlain(t *testing.T, what string, body []byte) bool {
	t.Helper()
	want, ok := plainList(body)
	if ok {
		wantList(t, body, want)
	} else {
		wantNoList(t, what, body)
	}
	return ok
}

// wantEncodedList asks that EncodeList answers what the chapter's words do, taken one by one.
func wantEncodedList(t *testing.T, p listPage) api.Errno {
	t.Helper()
	err := p.plainError()
	if err == api.OK {
		wantListBody(t, p, p.body(t))
	} else {
		wantListError(t, p, err)
	}
	return err
}

func TestP6_5Examples(t *testing.T) {
	wantListBody(t, listPage{0, []int{2, 5, 300}}, fromHex(t, "04 00000000 0300 02000000 05000000 2C010000"))
	wantListBody(t, listPage{0, nil}, fromHex(t, "04"))
	wantListBody(t, listPage{0, []int{}}, fromHex(t, "04"))
	wantListError(t, listPage{9, nil}, api.ErrList)
	wantListError(t, listPage{0, []int{5, 5}}, api.ErrList)
	wantListError(t, listPage{0, []int{1}}, api.ErrList)
}

func TestP6_5Bodies(t *testing.T) {
	for _, p := range likelyLists() {
		wantListBody(t, p, p.body(t))
	}
}

func TestP6_5EveryLength(t *testing.T) {
	all := someNumbers(2, 1100)
	for n := range all {
		want := api.OK
		if n > 1021 {
			want = api.ErrList
		}
		if err := wantEncodedList(t, listPage{0, all[:n]}); err != want {
			t.Errorf("%d numbers without a next: %d, not %d", n, err, want)
		}
		if n != 1021 {
			wantListError(t, listPage{2, all[:n]}, api.ErrList)
		}
	}
	for _, n := range []int{2042, 65535, 65536, 65537, 65536 + 1021, 524285} {
		wantListError(t, listPage{0, someNumbers(2, n)}, api.ErrList)
		wantListError(t, listPage{9, someNumbers(2, n)}, api.ErrList)
	}
}

func TestP6_5Nexts(t *testing.T) {
	full := someNumbers(2, 1021)
	for _, next := range goodNexts() {
		p := listPage{next, full}
		wantListBody(t, p, p.body(t))
		for _, n := range []int{0, 1, 3, 1020, 1022} {
			wantListError(t, listPage{next, someNumbers(2, n)}, api.ErrList)
		}
	}
	for _, next := range badNexts() {
		wantListError(t, listPage{next, full}, api.ErrKid)
	}
	for next := -3; next < 70000; next += 1 + max(0, next)/50 {
		wantEncodedList(t, listPage{next, full})
	}
	for next := 524200; next < 524300; next++ {
		wantEncodedList(t, listPage{next, full})
	}
}

func TestP6_5Numbers(t *testing.T) {
	for _, no := range []int{2, 3, 255, 256, 65535, 65536, 524285, 524286} {
		p := listPage{0, []int{no}}
		wantListBody(t, p, p.body(t))
	}
	wrong := []int{math.MinInt, -1 << 32, -2, -1, 0, 1, 524287, 524288, 1<<31 - 1, 1 << 31, 1<<32 - 1, 1 << 32, 1<<32 + 2, 1<<32 + 300, 1 << 62, math.MaxInt}
	for _, no := range wrong {
		wantListError(t, listPage{0, []int{no}}, api.ErrList)
		// Where it stands, the numbers rise all the same.
		for _, list := range [][]int{{300}, {300, 301}, someNumbers(300, 1020)} {
			if no < 300 {
				list = append([]int{no}, list...)
			} else {
				list = append(slices.Clone(list), no)
			}
			wantListError(t, listPage{0, list}, api.ErrList)
			if len(list) == 1021 {
				wantListError(t, listPage{9, list}, api.ErrList)
			}
		}
	}
	wantListError(t, listPage{0, []int{1, 2, 3}}, api.ErrList)
	wantListError(t, listPage{0, []int{524285, 524286, 524287}}, api.ErrList)
}

func TestP6_5Rising(t *testing.T) {
	for _, list := range [][]int{
		{5, 5}, {2, 2}, {524286, 524286}, {6, 5}, {524286, 2}, {2, 3, 3}, {2, 2, 3}, {2, 4, 3}, {4, 2, 3}, {3, 4, 2}, {256, 255}, {65536, 2}, {7, 6, 5, 4}, {5, 5, 5},
	} {
		wantListError(t, listPage{0, list}, api.ErrList)
	}
	for _, list := range [][]int{{2, 3}, {2, 524286}, {255, 256}, {2, 3, 4}, {2, 300, 301, 65536}} {
		p := listPage{0, list}
		wantListBody(t, p, p.body(t))
	}
	for _, next := range []int{0, 9} {
		for at := range 1020 {
			alike, falling := someNumbers(10, 1021), someNumbers(10, 1021)
			alike[at] = alike[at+1]
			falling[at], falling[at+1] = falling[at+1], falling[at]
			wantListError(t, listPage{next, alike}, api.ErrList)
			wantListError(t, listPage{next, falling}, api.ErrList)
		}
	}
}

// Whatever the list is, a next that may not be is answered first.
func TestP6_5TheFirstErrorThatHolds(t *testing.T) {
	for _, next := range badNexts() {
		for _, list := range [][]int{nil, {}, {1}, {2}, {5, 5}, {6, 5}, {524287}, someNumbers(2, 1020), someNumbers(2, 1021), someNumbers(2, 1022), someNumbers(0, 1021)} {
			wantListError(t, listPage{next, list}, api.ErrKid)
		}
	}
}

func TestP6_5AnyPage(t *testing.T) {
	next := noise(67)
	got := map[api.Errno]int{}
	nexts := append(goodNexts(), badNexts()...)
	for range 3000 {
		p := listPage{0, anyList(next, []int{next(4), next(1024), 1019 + next(5), 1021}[next(4)])}
		if next(3) > 0 {
			p.next = nexts[next(len(nexts))]
		}
		if len(p.list) > 0 && next(4) == 0 {
			p.list[next(len(p.list))] += next(5) - 2
		}
		got[wantEncodedList(t, p)]++
	}
	if len(got) != 3 {
		t.Errorf("not every error came up: %v", got)
	}
}

func TestP6_6Bodies(t *testing.T) {
	wantList(t, fromHex(t, "04 00000000 0300 02000000 05000000 2C010000"), listPage{0, []int{2, 5, 300}})
	wantList(t, fromHex(t, "04"), listPage{0, nil})
	for _, p := range likelyLists() {
		wantList(t, p.body(t), p)
	}
}

func TestP6_6OtherLengths(t *testing.T) {
	for _, p := range []listPage{{0, nil}, {0, []int{2, 5, 300}}, {0, someNumbers(2, 1021)}, {7, someNumbers(2, 1021)}} {
		body := p.body(t)
		for n := range body {
			wantNoList(t, "a body cut off", body[:n])
		}
		for _, more := range []int{1, 2, 4, 4092, 100000} {
			wantNoList(t, "a body with zeros behind it", append(bytes.Clone(body), make([]byte, more)...))
		}
		wantNoList(t, "two bodies", append(bytes.Clone(body), body...))
	}
	wantNoList(t, "nil", nil)
	wantNoList(t, "no byte", []byte{})
}

func TestP6_6Kinds(t *testing.T) {
	for _, p := range []listPage{{0, nil}, {0, []int{2, 5, 300}}, {0, someNumbers(2, 1021)}, {7, someNumbers(2, 1021)}} {
		for kind := range 256 {
			body := p.body(t)
			body[0] = byte(kind)
			if kind == 4 {
				wantList(t, body, p)
			} else {
				wantNoList(t, "another kind", body)
			}
		}
	}
	wantNoList(t, "zeros", make([]byte, 4092))
	wantNoList(t, "all 4", bytes.Repeat([]byte{4}, 4092))
	wantNoList(t, "all 255", bytes.Repeat([]byte{255}, 4092))
}

func TestP6_6Nexts(t *testing.T) {
	full := someNumbers(2, 1021)
	for _, next := range append([]int{0}, goodNexts()...) {
		wantList(t, plainBody(t, 4, next, 1021, plainNumbers(full)), listPage{next, full})
	}
	for _, next := range []int{1, 524287, 524288, 1 << 24, 1<<31 - 1, 1 << 31, 1<<32 - 1} {
		wantNoList(t, "a next that may not be", plainBody(t, 4, next, 1021, plainNumbers(full)))
		wantNoList(t, "a next that may not be, behind few numbers", plainBody(t, 4, next, 1, plainNumbers(full[:1])))
		wantNoList(t, "a next that may not be, behind no number", plainBody(t, 4, next, 0, nil))
	}
	for _, n := range []int{0, 1, 3, 1020} {
		wantNoList(t, "a next behind too few numbers", plainBody(t, 4, 7, n, plainNumbers(full[:n])))
	}
}

// counts are those that a page may have, those next to them, and many of the others that two bytes can tell.
func counts() []int {
	l := someNumbers(0, 1100)
	for n := 1100; n < 1<<16; n += 61 {
		l = append(l, n)
	}
	return append(l, 4085, 4092, 1<<15, 1<<15+1021, 1<<16-2, 1<<16-1)
}

func TestP6_6Counts(t *testing.T) {
	full := someNumbers(2, 1021)
	rest := plainNumbers(full)
	for _, n := range counts() {
		body := plainBody(t, 4, 0, n, rest[:4*min(n, 1021)])
		if n <= 1021 {
			wantList(t, body, listPage{0, full[:n]})
		} else {
			wantNoList(t, "a count that may not be", body)
		}
	}
	for _, p := range []listPage{{0, nil}, {0, full[:3]}, {0, full}, {7, full}} {
		body := p.body(t)
		for _, n := range counts() {
			if n == len(p.list) {
				continue
			}
			body[5], body[6] = byte(n), byte(n>>8)
			wantNoList(t, "another count", body)
		}
	}
	wantNoList(t, "no number, and one all the same", fromHex(t, "04 00000000 0000 02000000"))
	wantNoList(t, "a number fewer than there are", fromHex(t, "04 00000000 0100 02000000 05000000"))
	wantNoList(t, "a number more than there are", fromHex(t, "04 00000000 0300 02000000 05000000"))
}

func TestP6_6Numbers(t *testing.T) {
	for _, no := range []int{0, 1, 524287, 524288, 1 << 24, 1<<31 - 1, 1 << 31, 1<<32 - 2, 1<<32 - 1} {
		wantNoList(t, "a number that may not be", listPage{0, []int{no}}.body(t))
		for _, list := range [][]int{{300}, {300, 301}, someNumbers(300, 1020)} {
			wantNoList(t, "a number that may not be, ahead of others", listPage{0, append([]int{no}, list...)}.body(t))
			wantNoList(t, "a number that may not be, behind others", listPage{0, append(slices.Clone(list), no)}.body(t))
		}
	}
	for _, no := range []int{2, 3, 524285, 524286} {
		wantList(t, listPage{0, []int{no}}.body(t), listPage{0, []int{no}})
	}
	for _, list := range [][]int{{5, 5}, {6, 5}, {2, 2}, {524286, 524286}, {524286, 2}, {2, 3, 3}, {2, 4, 3}, {3, 2, 4}, {256, 255}} {
		wantNoList(t, "numbers that do not rise", listPage{0, list}.body(t))
	}
	for _, at := range []int{0, 1, 500, 1018, 1019} {
		alike := someNumbers(10, 1021)
		alike[at] = alike[at+1]
		for _, next := range []int{0, 7} {
			wantNoList(t, "two numbers alike", listPage{next, alike}.body(t))
		}
	}
}

func TestP6_6WhatIsNotUsedIsZero(t *testing.T) {
	for _, n := range []int{0, 1, 3, 1000, 1019, 1020, 1021} {
		for _, next := range []int{0, 7} {
			if next != 0 && n != 1021 {
				continue
			}
			body := listPage{next, someNumbers(2, n)}.body(t)
			for at := 7 + 4*n; at < len(body); at++ {
				for _, x := range []byte{1, 128, 255} {
					body[at] = x
					wantNoList(t, "a byte behind the list", body)
				}
				body[at] = 0
			}
		}
	}
	// What stands behind the last number would be another one, and rise.
	body := listPage{0, []int{2, 5, 300}}.body(t)
	copy(body[19:], []byte{0x2d, 1, 0, 0})
	wantNoList(t, "a number behind the list", body)
}

func TestP6_6EachByteChanged(t *testing.T) {
	next := noise(68)
	kept := 0
	for _, p := range likelyLists() {
		body := p.body(t)
		for round := range 500 {
			at := []int{round % 16, next(min(7+4*len(p.list)+3, 4092)), 4091 - next(3)}[next(3)]
			was := body[at]
			body[at] = []byte{byte(next(256)), body[at] + 1, body[at] - 1, body[at] ^ 1<<next(8)}[next(4)]
			if wantListAsPlain(t, "a byte changed", body) {
				kept++
			}
			body[at] = was
		}
	}
	if kept < 1000 {
		t.Errorf("only %d of the changed bodies are bodies", kept)
	}
}

// Each value at each place of a small body.
func TestP6_6EachValueOfEachByte(t *testing.T) {
	for _, p := range []listPage{{0, nil}, {0, []int{2}}, {0, []int{2, 5, 300}}, {0, someNumbers(2, 1021)}, {524286, someNumbers(2, 1021)}} {
		body := p.body(t)
		for at := range body {
			if at > 20 && at < 4085 {
				continue
			}
			was := body[at]
			for x := range 256 {
				body[at] = byte(x)
				wantListAsPlain(t, "a byte changed", body)
			}
			body[at] = was
		}
	}
}

func TestP6_6AnyBytes(t *testing.T) {
	next := noise(69)
	kept := 0
	for range 5000 {
		n := []int{next(8), 1018 + next(5)}[next(2)]
		numbers := anyList(next, min(max(0, n-next(5)/4), 1021))
		if len(numbers) > 0 && next(3) == 0 {
			numbers[next(len(numbers))] += next(5) - 2
		}
		body := plainBody(t, 4, next(3)*next(600000), n, plainNumbers(numbers))
		if wantListAsPlain(t, "noise", body) {
			kept++
		}
	}
	if kept < 500 {
		t.Errorf("only %d of these are bodies", kept)
	}
}
