package meta_test

import (
	"bytes"
	"testing"

	"coppice/api"
	"coppice/meta"
)

// wantBody asks that Encode answers the body.
func wantBody(t *testing.T, h api.Head, want []byte) {
	t.Helper()
	b, err := meta.Encode(h)
	if err != api.OK || !bytes.Equal(b, want) {
		t.Errorf("Encode(%v): %d, %d bytes, %x", h, err, len(b), b[:min(len(b), 40)])
	}
}

// wantNoBody asks that Encode answers ErrHead, and no body.
func wantNoBody(t *testing.T, h api.Head) {
	t.Helper()
	if b, err := meta.Encode(h); err != api.ErrHead || b != nil {
		t.Errorf("Encode(%v): %d and %d bytes", h, err, len(b))
	}
}

// wantEncoded asks that Encode answers what the chapter's words do, taken one by one, and tells whether the head may be.
func wantEncoded(t *testing.T, h api.Head) bool {
	t.Helper()
	if !plainMayBe(h) {
		wantNoBody(t, h)
		return false
	}
	wantBody(t, h, plainBody(h))
	return true
}

func TestP7_1Examples(t *testing.T) {
	wantBody(t, head(1, 2, 0, 0, 0, 0, 0),
		fromHex(t, "05 636f70 0100000000000000 02000000 00000000 00 0000000000000000 00000000 00000000"))
	wantBody(t, head(258, 300, 7, 2, 1000, 299, 3),
		fromHex(t, "05 636f70 0201000000000000 2c010000 07000000 02 e803000000000000 2b010000 03000000"))
	wantNoBody(t, head(0, 2, 0, 0, 0, 0, 0))
	wantNoBody(t, head(1, 2, 2, 1, 1, 0, 0))
	wantNoBody(t, head(1, 3, 2, 0, 1, 0, 0))
	wantNoBody(t, head(1, 3, 0, 0, 0, 2, 0))
	wantNoBody(t, head(1, 1, 0, 0, 0, 0, 0))
}

// Each number in a body of its own bytes, the others as small as they may be.
func TestP7_1WhereEachNumberStands(t *testing.T) {
	wantBody(t, head(0x0123456789abcdef, 0x071234, 0x056789, 0x0e, 0x89abcdef, 0x04abcd, 0x03fedc),
		fromHex(t, "05 636f70 efcdab8967452301 34120700 89670500 0e efcdab8900000000 cdab0400 dcfe0300"))
	wantBody(t, head(1<<62, 524287, 524286, 16, 1<<32-1, 524286, 524285),
		fromHex(t, "05 636f70 0000000000000040 ffff0700 feff0700 10 ffffffff00000000 feff0700 fdff0700"))
	wantBody(t, head(1<<62-1, 3, 2, 1, 1, 0, 0),
		fromHex(t, "05 636f70 ffffffffffffff3f 03000000 02000000 01 0100000000000000 00000000 00000000"))
	wantBody(t, head(1, 3, 0, 0, 0, 2, 1),
		fromHex(t, "05 636f70 0100000000000000 03000000 00000000 00 0000000000000000 02000000 01000000"))
}

func TestP7_1Bodies(t *testing.T) {
	for _, h := range likely() {
		wantBody(t, h, plainBody(h))
	}
}

func TestP7_1Versions(t *testing.T) {
	for _, version := range []int{1, 2, 3, 258, 1 << 32, 1<<62 - 1, 1 << 62} {
		h := head(version, 2, 0, 0, 0, 0, 0)
		wantBody(t, h, plainBody(h))
	}
	for _, version := range []int{-1 << 63, -1<<63 + 1, -1 << 62, -1 << 32, -2, -1, 0, 1<<62 + 1, 1<<63 - 1} {
		wantNoBody(t, head(version, 2, 0, 0, 0, 0, 0))
		wantNoBody(t, head(version, 300, 7, 2, 1000, 299, 3))
	}
}

func TestP7_1Counts(t *testing.T) {
	for _, count := range []int{2, 3, 300, 65536, 524286, 524287} {
		h := head(1, count, 0, 0, 0, 0, 0)
		wantBody(t, h, plainBody(h))
	}
	for _, count := range []int{-1 << 63, -1 << 32, -300, -2, -1, 0, 1, 524288, 1 << 20, 1<<32 - 1, 1 << 32, 1<<32 + 2, 1<<32 + 300, 1<<63 - 1} {
		wantNoBody(t, head(1, count, 0, 0, 0, 0, 0))
		wantNoBody(t, head(1, count, 2, 1, 1, 0, 0))
		wantNoBody(t, head(1, count, 0, 0, 0, 2, 1))
	}
}

func TestP7_1Roots(t *testing.T) {
	for _, count := range []int{2, 3, 4, 300, 524287} {
		for _, root := range []int{-1 << 63, -2, -1, 1, count, count + 1, 524287, 1<<32 - 1, 1 << 32, 1<<32 + 2, 1<<63 - 1} {
			wantNoBody(t, head(1, count, root, 1, 1, 0, 0))
			wantNoBody(t, head(1, count, root, 0, 0, 0, 0))
		}
		for _, root := range []int{2, 3, count - 1} {
			if root < count && count > 2 {
				h := head(1, count, root, 1, 1, 0, 0)
				wantBody(t, h, plainBody(h))
			}
		}
	}
}

func TestP7_1Heights(t *testing.T) {
	for height := 1; height <= 16; height++ {
		h := head(1, 9, 8, height, 5, 0, 0)
		wantBody(t, h, plainBody(h))
		wantNoBody(t, head(1, 9, 0, height, 0, 0, 0))
		wantNoBody(t, head(1, 9, 0, height, 5, 0, 0))
	}
	for _, height := range []int{-1 << 63, -256, -255, -2, -1, 0, 17, 18, 255, 256, 257, 258, 1<<32 + 1, 1<<63 - 1} {
		wantNoBody(t, head(1, 9, 8, height, 5, 0, 0))
		if height != 0 {
			wantNoBody(t, head(1, 9, 0, height, 0, 0, 0))
		}
	}
}

func TestP7_1Keys(t *testing.T) {
	for _, keys := range []int{1, 2, 255, 256, 1 << 31, 1<<32 - 2, 1<<32 - 1} {
		h := head(1, 9, 8, 3, keys, 0, 0)
		wantBody(t, h, plainBody(h))
		wantNoBody(t, head(1, 9, 0, 0, keys, 0, 0))
		wantNoBody(t, head(1, 9, 0, 3, keys, 0, 0))
	}
	for _, keys := range []int{-1 << 63, -1 << 32, -2, -1, 0, 1 << 32, 1<<32 + 1, 1 << 62, 1<<63 - 1} {
		wantNoBody(t, head(1, 9, 8, 3, keys, 0, 0))
		if keys != 0 {
			wantNoBody(t, head(1, 9, 0, 0, keys, 0, 0))
		}
	}
}

func TestP7_1Firsts(t *testing.T) {
	for _, count := range []int{2, 3, 4, 300, 524287} {
		for _, first := range []int{-1 << 63, -2, -1, 1, count, count + 1, 524287, 1<<32 - 1, 1 << 32, 1<<32 + 2, 1<<63 - 1} {
			wantNoBody(t, head(1, count, 0, 0, 0, first, 1))
			wantNoBody(t, head(1, count, 0, 0, 0, first, 0))
		}
		for _, first := range []int{2, 3, count - 1} {
			if first < count && count > 2 {
				h := head(1, count, 0, 0, 0, first, 1)
				wantBody(t, h, plainBody(h))
			}
		}
	}
}

func TestP7_1Frees(t *testing.T) {
	for _, count := range []int{3, 4, 300, 524287} {
		for _, free := range []int{1, 2, count - 3, count - 2} {
			if free >= 1 && free <= count-2 {
				h := head(1, count, 0, 0, 0, 2, free)
				wantBody(t, h, plainBody(h))
				wantNoBody(t, head(1, count, 0, 0, 0, 0, free))
			}
		}
		for _, free := range []int{-1 << 63, -2, -1, 0, count - 1, count, count + 1, 1<<32 - 1, 1 << 32, 1<<32 + 1, 1<<63 - 1} {
			wantNoBody(t, head(1, count, 0, 0, 0, 2, free))
			if free != 0 {
				wantNoBody(t, head(1, count, 0, 0, 0, 0, free))
			}
		}
	}
	wantNoBody(t, head(1, 2, 0, 0, 0, 0, 1))
}

func TestP7_1OneOrTwoNumbersOtherwise(t *testing.T) {
	good, bad := 0, 0
	for _, h := range turned() {
		if wantEncoded(t, h) {
			good++
		} else {
			bad++
		}
	}
	if good < 1000 || bad < 1000 {
		t.Errorf("only %d heads that may be, and %d that may not", good, bad)
	}
}

// All heads of small numbers.
func TestP7_1SmallHeads(t *testing.T) {
	good := 0
	for count := range 6 {
		for root := -1; root <= 6; root++ {
			for first := -1; first <= 6; first++ {
				for free := -1; free <= 6; free++ {
					for few := range 64 {
						if wantEncoded(t, head(few%2+few/32, count, root, few/2%4-1, few/8%4-1, first, free)) {
							good++
						}
					}
				}
			}
		}
	}
	if good < 200 {
		t.Errorf("only %d heads that may be", good)
	}
}

func TestP7_1ZeroHead(t *testing.T) { wantNoBody(t, api.Head{}) }
