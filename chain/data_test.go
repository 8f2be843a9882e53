package chain_test

import (
	"bytes"
	"testing"

	"coppice/api"
	"coppice/chain"
)

// wantDataBody asks that EncodeData answers the body.
func wantDataBody(t *testing.T, p dataPage, want []byte) {
	t.Helper()
	b, err := chain.EncodeData(p.next, p.data)
	if err != api.OK || !bytes.Equal(b, want) {
		t.Errorf("EncodeData%v: %d, %d bytes, %x", p, err, len(b), b[:min(len(b), 20)])
	}
}

// wantDataError asks that EncodeData answers the error, and no body.
func wantDataError(t *testing.T, p dataPage, want api.Errno) {
	t.Helper()
	if b, err := chain.EncodeData(p.next, p.data); err != want || b != nil {
		t.Errorf("EncodeData%v: %d and %d bytes, not %d", p, err, len(b), want)
	}
}

// wantData asks that DecodeData answers the page.
func wantData(t *testing.T, body []byte, want dataPage) {
	t.Helper()
	next, data, err := chain.DecodeData(body)
	if got := (dataPage{next, data}); err != api.OK || !got.same(want) {
		t.Errorf("DecodeData(%x): %d, %v, not %v", body[:min(len(body), 20)], err, got, want)
	}
}

// wantNoData asks that DecodeData answers ErrChain, and nothing beside it.
func wantNoData(t *testing.T, what string, body []byte) {
	t.Helper()
	if next, data, err := chain.DecodeData(body); err != api.ErrChain || next != 0 || data != nil {
		t.Errorf("%s: DecodeData(%x): %d, %v", what, body[:min(len(body), 20)], err, dataPage{next, data})
	}
}

// wantDataAsPlain asks that DecodeData answers what a strict reading does, and tells whether it is a body.
func wantDataAsPlain(t *testing.T, what string, body []byte) bool {
	t.Helper()
	want, ok := plainData(body)
	if ok {
		wantData(t, body, want)
	} else {
		wantNoData(t, what, body)
	}
	return ok
}

// wantEncodedData asks that EncodeData answers what the chapter's words do, taken one by one.
func wantEncodedData(t *testing.T, p dataPage) api.Errno {
	t.Helper()
	err := p.plainError()
	if err == api.OK {
		wantDataBody(t, p, p.body(t))
	} else {
		wantDataError(t, p, err)
	}
	return err
}

func TestP6_3Examples(t *testing.T) {
	wantDataBody(t, dataPage{0, []byte("abc")}, fromHex(t, "03 00000000 0300 616263"))
	full := someBytes(4085)
	wantDataBody(t, dataPage{7, full}, append([]byte{3, 7, 0, 0, 0, 0xf5, 0x0f}, full...))
	wantDataError(t, dataPage{7, []byte("abc")}, api.ErrData)
	wantDataError(t, dataPage{1, []byte("abc")}, api.ErrKid)
	wantDataError(t, dataPage{0, nil}, api.ErrData)
	wantDataError(t, dataPage{0, []byte{}}, api.ErrData)
	wantDataError(t, dataPage{0, make([]byte, 4086)}, api.ErrData)
}

func TestP6_3Bodies(t *testing.T) {
	for _, p := range likelyData() {
		wantDataBody(t, p, p.body(t))
	}
}

func TestP6_3EveryLength(t *testing.T) {
	all := someBytes(4200)
	for n := range all {
		want := api.OK
		if n == 0 || n > 4085 {
			want = api.ErrData
		}
		if err := wantEncodedData(t, dataPage{0, all[:n]}); err != want {
			t.Errorf("%d bytes without a next: %d, not %d", n, err, want)
		}
		if n != 4085 {
			wantDataError(t, dataPage{2, all[:n]}, api.ErrData)
		}
	}
	for _, n := range []int{8170, 65535, 65536, 65537, 65536 + 4085, 1 << 20} {
		wantDataError(t, dataPage{0, make([]byte, n)}, api.ErrData)
		wantDataError(t, dataPage{9, make([]byte, n)}, api.ErrData)
	}
}

func TestP6_3Nexts(t *testing.T) {
	full := someBytes(4085)
	for _, next := range goodNexts() {
		p := dataPage{next, full}
		wantDataBody(t, p, p.body(t))
		for _, n := range []int{0, 1, 3, 4084, 4086} {
			wantDataError(t, dataPage{next, someBytes(n)}, api.ErrData)
		}
	}
	for _, next := range badNexts() {
		wantDataError(t, dataPage{next, full}, api.ErrKid)
	}
	for next := -3; next < 70000; next += 1 + max(0, next)/50 {
		wantEncodedData(t, dataPage{next, full})
	}
	for next := 524200; next < 524300; next++ {
		wantEncodedData(t, dataPage{next, full})
	}
}

// Whatever the data is, a next that may not be is answered first.
func TestP6_3TheFirstErrorThatHolds(t *testing.T) {
	for _, next := range badNexts() {
		for _, n := range []int{0, 1, 4084, 4085, 4086, 100000} {
			wantDataError(t, dataPage{next, make([]byte, n)}, api.ErrKid)
		}
		wantDataError(t, dataPage{next, nil}, api.ErrKid)
	}
}

func TestP6_3AnyPage(t *testing.T) {
	next := noise(63)
	got := map[api.Errno]int{}
	nexts := append(goodNexts(), badNexts()...)
	for range 3000 {
		p := dataPage{0, anyData(next, []int{next(3), next(4090), 4083 + next(5), 4085}[next(4)])}
		if next(3) > 0 {
			p.next = nexts[next(len(nexts))]
		}
		got[wantEncodedData(t, p)]++
	}
	if len(got) != 3 {
		t.Errorf("not every error came up: %v", got)
	}
}

func TestP6_4Examples(t *testing.T) {
	body := fromHex(t, "03 00000000 0300 616263")
	wantData(t, body, dataPage{0, []byte("abc")})
	wantNoData(t, "4091 bytes", body[:4091])
	wantNoData(t, "4091 zeros", make([]byte, 4091))
	body[4091] = 1
	wantNoData(t, "another last byte", body)
}

func TestP6_4Bodies(t *testing.T) {
	for _, p := range likelyData() {
		wantData(t, p.body(t), p)
	}
}

func TestP6_4OtherLengths(t *testing.T) {
	for _, p := range []dataPage{{0, []byte("a")}, {0, []byte("abc")}, {0, someBytes(4085)}, {7, someBytes(4085)}} {
		body := p.body(t)
		for n := range body {
			wantNoData(t, "a body cut off", body[:n])
		}
		for _, more := range []int{1, 2, 4, 4092, 100000} {
			wantNoData(t, "a body with zeros behind it", append(bytes.Clone(body), make([]byte, more)...))
		}
		wantNoData(t, "two bodies", append(bytes.Clone(body), body...))
	}
	wantNoData(t, "nil", nil)
	wantNoData(t, "no byte", []byte{})
}

func TestP6_4Kinds(t *testing.T) {
	for _, p := range []dataPage{{0, []byte("abc")}, {0, someBytes(4085)}, {7, someBytes(4085)}} {
		for kind := range 256 {
			body := p.body(t)
			body[0] = byte(kind)
			if kind == 3 {
				wantData(t, body, p)
			} else {
				wantNoData(t, "another kind", body)
			}
		}
	}
	wantNoData(t, "zeros", make([]byte, 4092))
	wantNoData(t, "all 3", bytes.Repeat([]byte{3}, 4092))
	wantNoData(t, "all 255", bytes.Repeat([]byte{255}, 4092))
}

func TestP6_4Nexts(t *testing.T) {
	full := someBytes(4085)
	for _, next := range append([]int{0}, goodNexts()...) {
		wantData(t, plainBody(t, 3, next, 4085, full), dataPage{next, full})
	}
	for _, next := range []int{1, 524287, 524288, 1 << 24, 1<<31 - 1, 1 << 31, 1<<32 - 1} {
		wantNoData(t, "a next that may not be", plainBody(t, 3, next, 4085, full))
		wantNoData(t, "a next that may not be, behind few bytes", plainBody(t, 3, next, 3, []byte("abc")))
	}
	for _, n := range []int{0, 1, 3, 4084} {
		wantNoData(t, "a next behind too few bytes", plainBody(t, 3, 7, n, full[:n]))
	}
}

// Every length that two bytes can tell, with as many bytes that are used as have room.
func TestP6_4Lengths(t *testing.T) {
	full := bytes.Repeat([]byte{9}, 4085)
	for n := range 1 << 16 {
		used := full[:min(n, 4085)]
		body := plainBody(t, 3, 0, n, used)
		if n >= 1 && n <= 4085 {
			wantData(t, body, dataPage{0, used})
		} else {
			wantNoData(t, "a length that may not be", body)
		}
	}
	for _, p := range []dataPage{{0, full[:3]}, {0, full}, {7, full}} {
		body := p.body(t)
		for n := range 1 << 16 {
			body[5], body[6] = byte(n), byte(n>>8)
			wantDataAsPlain(t, "another length", body)
		}
	}
	wantNoData(t, "no data", fromHex(t, "03"))
	wantNoData(t, "no data, and a byte all the same", fromHex(t, "03 00000000 0000 61"))
	wantNoData(t, "a byte fewer than are used", fromHex(t, "03 00000000 0200 616263"))
	wantData(t, fromHex(t, "03 00000000 0400 616263"), dataPage{0, []byte("abc\x00")})
}

func TestP6_4WhatIsNotUsedIsZero(t *testing.T) {
	for _, n := range []int{1, 3, 512, 4000, 4083, 4084} {
		body := dataPage{0, someBytes(n)}.body(t)
		for at := 7 + n; at < len(body); at++ {
			for _, x := range []byte{1, 128, 255} {
				body[at] = x
				wantNoData(t, "a byte behind the data", body)
			}
			body[at] = 0
		}
	}
}

func TestP6_4EachByteChanged(t *testing.T) {
	next := noise(64)
	kept := 0
	for _, p := range likelyData() {
		body := p.body(t)
		for round := range 500 {
			at := []int{round % 10, next(min(7+len(p.data)+3, 4092)), 4091 - next(3)}[next(3)]
			was := body[at]
			body[at] = byte(next(256))
			if wantDataAsPlain(t, "a byte changed", body) {
				kept++
			}
			body[at] = was
		}
	}
	if kept < 1000 {
		t.Errorf("only %d of the changed bodies are bodies", kept)
	}
}

// Each value at each place of a small body.
func TestP6_4EachValueOfEachByte(t *testing.T) {
	for _, p := range []dataPage{{0, []byte("a")}, {0, []byte("abc")}, {0, []byte{0, 0}}, {0, someBytes(4085)}, {524286, someBytes(4085)}} {
		body := p.body(t)
		for _, at := range []int{0, 1, 2, 3, 4, 5, 6, 7, 8, 9, 10, 11, 12, 4090, 4091} {
			was := body[at]
			for x := range 256 {
				body[at] = byte(x)
				wantDataAsPlain(t, "a byte changed", body)
			}
			body[at] = was
		}
	}
}

func TestP6_4AnyBytes(t *testing.T) {
	next := noise(65)
	kept := 0
	for range 5000 {
		n := []int{next(20), 4080 + next(8)}[next(2)]
		body := plainBody(t, 3, next(3)*next(600000), n, anyData(next, min(max(0, n+next(3)-1), 4085)))
		if wantDataAsPlain(t, "noise", body) {
			kept++
		}
	}
	if kept < 500 {
		t.Errorf("only %d of these are bodies", kept)
	}
}
