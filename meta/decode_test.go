package meta_test

import (
	"bytes"
	"testing"

	"coppice/api"
	"coppice/branch"
	"coppice/chain"
	"coppice/leaf"
	"coppice/meta"
)

// wantHead asks that Decode answers the head.
func wantHead(t *testing.T, body []byte, want api.Head) {
	t.Helper()
	if h, err := meta.Decode(body); err != api.OK || h != want {
		t.Errorf("Decode(%x): %d, %v, not %v", body[:min(len(body), 40)], err, h, want)
	}
}

// wantNoHead asks that Decode answers ErrMeta, and nothing beside it.
func wantNoHead(t *testing.T, what string, body []byte) {
	t.Helper()
	if h, err := meta.Decode(body); err != api.ErrMeta || h != (api.Head{}) {
		t.Errorf("%s: Decode(%x): %d, %v", what, body[:min(len(body), 40)], err, h)
	}
}

// wantAsPlain asks that Decode answers what a strict reading does, and tells whether it is a body.
func wantAsPlain(t *testing.T, what string, body []byte) bool {
	t.Helper()
	want, ok := plainDecode(body)
	if ok {
		wantHead(t, body, want)
	} else {
		wantNoHead(t, what, body)
	}
	return ok
}

func TestP7_2Examples(t *testing.T) {
	first := fromHex(t, "05 636f70 0100000000000000 02000000 00000000 00 0000000000000000 00000000 00000000")
	wantHead(t, first, head(1, 2, 0, 0, 0, 0, 0))
	wantHead(t, fromHex(t, "05 636f70 0201000000000000 2c010000 07000000 02 e803000000000000 2b010000 03000000"),
		head(258, 300, 7, 2, 1000, 299, 3))
	wantNoHead(t, "without its last byte", first[:4091])
	first[37] = 1
	wantNoHead(t, "another byte at 37", first)
	first[37], first[4] = 0, 0
	wantNoHead(t, "the Version 0", first)
}

func TestP7_2WhereEachNumberStands(t *testing.T) {
	wantHead(t, fromHex(t, "05 636f70 efcdab8967452301 34120700 89670500 0e efcdab8900000000 cdab0400 dcfe0300"),
		head(0x0123456789abcdef, 0x071234, 0x056789, 0x0e, 0x89abcdef, 0x04abcd, 0x03fedc))
	wantHead(t, fromHex(t, "05 636f70 0000000000000040 ffff0700 feff0700 10 ffffffff00000000 feff0700 fdff0700"),
		head(1<<62, 524287, 524286, 16, 1<<32-1, 524286, 524285))
}

func TestP7_2Bodies(t *testing.T) {
	for _, h := range likely() {
		wantHead(t, plainBody(h), h)
	}
}

func TestP7_2OtherLengths(t *testing.T) {
	for _, h := range bases() {
		body := plainBody(h)
		for n := range body {
			wantNoHead(t, "a body cut off", body[:n])
		}
		for n := 1; n < len(body); n += 1 + n/9 {
			wantNoHead(t, "a body cut off at its begin", body[n:])
		}
		for _, more := range []int{1, 2, 4, 4092, 100000} {
			wantNoHead(t, "a body with zeros behind it", append(bytes.Clone(body), make([]byte, more)...))
			wantNoHead(t, "a body with zeros ahead of it", append(make([]byte, more), body...))
		}
		// The end mark at the end of another length, with a zero fewer or more ahead of it.
		wantNoHead(t, "a zero fewer", append(bytes.Clone(body[:4087]), "end."...))
		wantNoHead(t, "a zero more", append(bytes.Clone(body[:4088]), "\x00end."...))
		wantNoHead(t, "two bodies", append(bytes.Clone(body), body...))
	}
	wantNoHead(t, "nil", nil)
	wantNoHead(t, "no byte", []byte{})
	wantNoHead(t, "the marks alone", []byte("\x05copend."))
}

func TestP7_2Kinds(t *testing.T) {
	for _, h := range bases() {
		for kind := range 256 {
			body := plainBody(h)
			body[0] = byte(kind)
			if kind == 5 {
				wantHead(t, body, h)
			} else {
				wantNoHead(t, "another kind", body)
			}
		}
	}
	wantNoHead(t, "zeros", make([]byte, 4092))
	wantNoHead(t, "all 5", bytes.Repeat([]byte{5}, 4092))
	wantNoHead(t, "all 255", bytes.Repeat([]byte{255}, 4092))
}

// otherBodies are bodies of pages of all other kinds.
func otherBodies(t *testing.T) [][]byte {
	t.Helper()
	items, e1 := leaf.Encode([]api.Item{{Key: []byte("cop"), Value: []byte("end."), Size: 4}})
	kids, e2 := branch.Encode(1, [][]byte{[]byte("cop")}, []api.Kid{{No: 2, Keys: 1}, {No: 3, Keys: 1}})
	data, e3 := chain.EncodeData(0, []byte("cop"))
	list, e4 := chain.EncodeList(0, []int{2, 5, 300})
	// What stands in a head's body from 7 on, as the data of a chain.
	whole, e5 := chain.EncodeData(2, plainBody(head(258, 300, 7, 2, 1000, 299, 3))[7:])
	for _, err := range []api.Errno{e1, e2, e3, e4, e5} {
		if err != api.OK {
			t.Fatalf("a body of another kind: %d", err)
		}
	}
	return [][]byte{items, kids, data, list, whole}
}

func TestP7_2BodiesOfOtherKinds(t *testing.T) {
	bodies := otherBodies(t)
	for _, body := range bodies {
		wantNoHead(t, "a body of another kind", body)
		body[0] = 5
		wantNoHead(t, "a body of another kind, but for its kind", body)
	}
	// With the mark too, the last one is a head's: what was the length of its data is a part of the version.
	last := bodies[len(bodies)-1]
	copy(last[1:], "cop")
	wantHead(t, last, head(0x0ff500, 300, 7, 2, 1000, 299, 3))
}

// Each byte of either mark turned to each other value.
func TestP7_2Marks(t *testing.T) {
	for _, h := range bases() {
		body := plainBody(h)
		for _, at := range []int{1, 2, 3, 4088, 4089, 4090, 4091} {
			for x := 1; x < 256; x++ {
				body[at] ^= byte(x)
				wantNoHead(t, "a byte of a mark turned", body)
				body[at] ^= byte(x)
			}
		}
		wantHead(t, body, h)
		for _, mark := range []string{"COP", "poc", "opc", "cp\x00", "\x00\x00\x00", "end", "co.", "\x00co"} {
			copy(body[1:], mark)
			wantNoHead(t, "another mark at the front", body)
		}
		copy(body[1:], "cop")
		for _, mark := range []string{".dne", "END.", "end ", "nd.\x00", "\x00end", "cop.", "\x00\x00\x00\x00", "end\x00", "\x00nd."} {
			copy(body[4088:], mark)
			wantNoHead(t, "another mark at the end", body)
		}
		copy(body[4088:], "end.")
		wantHead(t, body, h)
	}
}

// Each byte from 37 to 4087 is 0.
func TestP7_2WhatIsNotUsedIsZero(t *testing.T) {
	for _, h := range bases() {
		body := plainBody(h)
		for at := 37; at <= 4087; at++ {
			for _, x := range []byte{1, 5, 0x2e, 128, 255} {
				body[at] = x
				wantNoHead(t, "a byte that is not used", body)
			}
			body[at] = 0
		}
		wantHead(t, body, h)
		for at := 37; at < 4084; at++ {
			copy(body[at:], "end.")
			wantNoHead(t, "a second mark", body)
			copy(body[at:], "\x00\x00\x00\x00")
		}
	}
}

// Numbers of a body that no head that may be has; where an int has no room for one it is written in its bytes.
func TestP7_2NumbersThatNoHeadHas(t *testing.T) {
	for _, x := range []struct {
		at, n  int
		values []uint64
	}{
		{4, 8, []uint64{0, 1<<62 + 1, 1<<62 + 258, 1<<63 - 1, 1 << 63, 1<<63 + 1, 1<<63 + 258, 1<<64 - 258, 1<<64 - 1}},
		{12, 4, []uint64{0, 1, 2, 298, 299, 524288, 1 << 24, 1<<31 - 1, 1 << 31, 1<<31 + 300, 1<<32 - 300, 1<<32 - 1}},
		{16, 4, []uint64{0, 1, 300, 301, 524286, 524287, 1 << 24, 1<<31 + 7, 1<<32 - 7, 1<<32 - 1}},
		{20, 1, []uint64{0, 17, 18, 32, 127, 128, 130, 254, 255}},
		{21, 8, []uint64{0, 1 << 32, 1<<32 + 1, 1<<32 + 1000, 1 << 40, 1<<63 - 1, 1 << 63, 1<<63 + 1000, 1<<64 - 1000, 1<<64 - 1}},
		{29, 4, []uint64{0, 1, 300, 301, 524286, 524287, 1 << 24, 1<<31 + 2, 1<<32 - 2, 1<<32 - 1}},
		{33, 4, []uint64{0, 299, 300, 301, 524285, 1 << 24, 1<<31 + 3, 1<<32 - 3, 1<<32 - 1}},
	} {
		for _, value := range x.values {
			body := plainBody(head(258, 300, 7, 2, 1000, 299, 3))
			copy(body[x.at:], plainNumber(value, x.n))
			wantNoHead(t, "a number that may not be", body)
		}
	}
}

// What a head without a tree, or without frees, may not have.
func TestP7_2NumbersBesideNone(t *testing.T) {
	for _, h := range []api.Head{
		head(1, 9, 0, 1, 0, 0, 0), head(1, 9, 0, 0, 1, 0, 0), head(1, 9, 0, 1, 1, 0, 0), head(1, 9, 8, 0, 0, 0, 0),
		head(1, 9, 8, 1, 0, 0, 0), head(1, 9, 8, 0, 1, 0, 0), head(1, 9, 0, 0, 0, 0, 1), head(1, 9, 0, 0, 0, 8, 0),
		head(1, 2, 0, 0, 0, 1, 1), head(1, 2, 1, 1, 1, 0, 0), head(1, 2, 0, 0, 0, 2, 1), head(1, 2, 2, 1, 1, 0, 0),
		head(1, 3, 0, 0, 0, 2, 2), head(1, 3, 0, 0, 0, 3, 1), head(1, 3, 3, 1, 1, 0, 0),
	} {
		wantNoHead(t, "a head that may not be", plainBody(h))
	}
}

func TestP7_2OneOrTwoNumbersOtherwise(t *testing.T) {
	good, bad := 0, 0
	for _, h := range turned() {
		if wantAsPlain(t, "a head that may not be", plainBody(h)) {
			good++
		} else {
			bad++
		}
	}
	if good < 1000 || bad < 1000 {
		t.Errorf("only %d bodies of heads, and %d others", good, bad)
	}
}

// Each value of each byte that a head's numbers and the marks have.
func TestP7_2EachValueOfEachByte(t *testing.T) {
	kept := 0
	for _, h := range likely()[:20] {
		body := plainBody(h)
		for at := range 40 {
			was := body[at]
			for x := range 256 {
				body[at] = byte(x)
				if wantAsPlain(t, "a byte changed", body) {
					kept++
				}
			}
			body[at] = was
		}
	}
	if kept < 5000 {
		t.Errorf("only %d of the changed bodies are bodies", kept)
	}
}

func TestP7_2AnyBytes(t *testing.T) {
	next := noise(72)
	kept := 0
	for range 20000 {
		body := plainBody(anyHead(next))
		for range next(4) {
			at := []int{next(37), 37 + next(4055)}[next(8)/7]
			body[at] = []byte{byte(next(256)), 0, body[at] + 1, body[at] ^ 1<<next(8)}[next(4)]
		}
		if wantAsPlain(t, "noise", body) {
			kept++
		}
	}
	if kept < 5000 || kept > 19000 {
		t.Errorf("%d of these are bodies", kept)
	}
	for range 1000 {
		body := make([]byte, next(3)/2*next(5000)+4092*next(2))
		for i := range body {
			body[i] = byte(next(256))
		}
		wantNoHead(t, "noise all over", body)
	}
}
