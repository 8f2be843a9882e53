package page_test

import (
	"bytes"
	"hash/crc32"
	"math/bits"
	"strconv"
	"testing"

	"coppice/api"
	"coppice/page"
)

// turnBit turns one bit, counted from the first byte on, in each byte from its lowest bit on.
func turnBit(b []byte, at int) { b[at/8] ^= 1 << (at % 8) }

// turnRun turns those of 32 bits in a row that pattern has; where the page ends ahead of them, those that there are.
func turnRun(b []byte, at int, pattern uint32) {
	for i := range 32 {
		if pattern>>i&1 == 1 && at+i < 8*len(b) {
			turnBit(b, at+i)
		}
	}
}

// runs are patterns whose first bit is turned, so that each of them turns something wherever it is laid.
func runs() []uint32 {
	all := []uint32{3, 5, 1<<31 + 1, 0xFF, 0xFFFF, 0xFFFFFFFF, 0xEDB88321, 0x04C11DB7, 0x80808081, 0x55555555}
	next := noise(850)
	for range 4 {
		all = append(all, 1|uint32(next(1<<31))<<1)
	}
	return all
}

// places are bits all over a page: each one near its beginning, near the line between body and sum and in the sum, and some between.
func places() []int {
	var l []int
	for at := range 48 {
		l = append(l, at)
	}
	for at := 48; at < 8*4092-40; at += 211 {
		l = append(l, at)
	}
	for at := 8*4092 - 40; at < 8*4096; at++ {
		l = append(l, at)
	}
	return l
}

// someOfEachKind are two pages of each kind that decode.
func someOfEachKind() []api.Page {
	l := []api.Page{fullLeaf(), fullBranch(), chainOf(2, someBytes(4085)), freesOf(2, someNumbers(3, 1021)...), metaOf(258, 300, 7, 2, 1000, 299, 3)}
	return append(l, leafOf(inline("k", "vv")), branchOf(1, nil, kid(2, 1)), chainOf(0, []byte("abc")), freesOf(0), metaOf(1, 2, 0, 0, 0, 0, 0))
}

func TestP8_5BitsWithin32Places(t *testing.T) {
	for _, p := range someOfEachKind() {
		whole := mustEncode(t, p)
		for _, at := range places() {
			for _, pattern := range runs() {
				b := bytes.Clone(whole)
				turnRun(b, at, pattern)
				wantNoValue(t, "a page with a run turned", b, api.ErrSum)
			}
		}
		wantValue(t, whole, p)
	}
}

func TestP8_5EachBit(t *testing.T) {
	for _, p := range someOfEachKind()[:5] {
		t.Run(strconv.Itoa(p.Kind), func(t *testing.T) {
			t.Parallel()
			b := mustEncode(t, p)
			for at := range 8 * 4096 {
				turnBit(b, at)
				wantNoValue(t, "a page with a bit turned", b, api.ErrSum)
				turnBit(b, at)
			}
			wantValue(t, b, p)
		})
	}
}

func TestP8_5TwoBits(t *testing.T) {
	for _, p := range someOfEachKind() {
		b := mustEncode(t, p)
		for _, one := range places() {
			for _, two := range []int{0, 7, 8, 33, 5000, 8*4092 - 1, 8 * 4092, 8*4096 - 1} {
				if one == two {
					continue
				}
				turnBit(b, one)
				turnBit(b, two)
				wantNoValue(t, "a page with two bits turned", b, api.ErrSum)
				turnBit(b, one)
				turnBit(b, two)
			}
		}
		wantValue(t, b, p)
	}
}

func TestP8_5TwoBitsAnywhere(t *testing.T) {
	next := noise(855)
	for range 5000 {
		p := anyPage(next)
		b := mustEncode(t, p)
		one, two := next(8*4096), next(8*4096-1)
		if two >= one {
			two++
		}
		turnBit(b, one)
		turnBit(b, two)
		wantNoValue(t, "a page with two bits turned", b, api.ErrSum)
	}
}

// A first byte that is another kind's is told by the sum, whatever that kind's Decode would say.
func TestP8_5AnotherKindInItsPlace(t *testing.T) {
	for _, p := range likely() {
		for x := range 256 {
			b := mustEncode(t, p)
			if int(b[0]) != x {
				b[0] = byte(x)
				wantNoValue(t, "a page with another first byte", b, api.ErrSum)
			}
		}
	}
}

// cut is a copy of bytes that are all 0 from a place on.
func cut(b []byte, from int) []byte {
	out := make([]byte, len(b))
	copy(out, b[:from])
	return out
}

// solved are the bits of a number, the lowest first, whose effects xored are want; false: there are none.
func solved(effects []uint32, want uint32) (uint64, bool) {
	// Of each highest bit one effect that has it, with the bits of the number that make it.
	var effect [32]uint32
	var made [32]uint64
	reduce := func(x uint32, by uint64) (uint32, uint64) {
		for x != 0 {
			top := bits.Len32(x) - 1
			if effect[top] == 0 {
				break
			}
			x, by = x^effect[top], by^made[top]
		}
		return x, by
	}
	for i, x := range effects {
		if rest, by := reduce(x, 1<<i); rest != 0 {
			effect[bits.Len32(rest)-1], made[bits.Len32(rest)-1] = rest, by
		}
	}
	rest, by := reduce(want, 0)
	return by, rest == 0
}

// withSum is a head like this one but for its version: that one for which the body, all 0 from a place on, has this sum.
func withSum(t *testing.T, p api.Page, from int, sum uint32) api.Page {
	t.Helper()
	sumOf := func(version int) uint32 {
		p.Head.Version = version
		return crc32.ChecksumIEEE(cut(pageOf(t, p)[:4092], from))
	}
	// No head has the version 0: the sums are affine, so that of 0 is told by three others.
	zero := sumOf(1) ^ sumOf(2) ^ sumOf(3)
	var effects []uint32
	for i := range 62 {
		effects = append(effects, sumOf(1<<i)^zero)
	}
	version, ok := solved(effects, sum^zero)
	if !ok || version == 0 || sumOf(int(version)) != sum {
		t.Fatalf("no version of %s has that sum", tell(p))
	}
	return p
}

// heads are pages of heads: some have sums that end in zeros, or are 0 altogether, and of some what is left of the body when it is cut has the sum 0.
func heads(t *testing.T) []api.Page {
	l := likelyHeads()
	next := noise(86)
	for len(l) < 12 {
		if p := anyPage(next); p.Kind == 5 {
			l = append(l, p)
		}
	}
	base := metaOf(258, 300, 7, 2, 1000, 299, 3)
	for _, sum := range []uint32{0, 1, 0xff, 0xffff, 0xffffff, 0xff000000, 0x00ff00ff, 0x00ff0000} {
		l = append(l, withSum(t, base, 4092, sum))
	}
	for _, from := range []int{12, 13, 20, 29, 34, 4088, 4089, 4090, 4091} {
		l = append(l, withSum(t, base, from, 0))
	}
	return l
}

func TestP8_6AHeadCutShort(t *testing.T) {
	for i, p := range heads(t) {
		t.Run(strconv.Itoa(i), func(t *testing.T) {
			t.Parallel()
			b := mustEncode(t, p)
			for from := range 4097 {
				short := cut(b, from)
				if bytes.Equal(short, b) {
					wantValue(t, short, p)
					continue
				}
				if got, err := page.Decode(short); err == api.OK || !same(got, api.Page{}) {
					t.Errorf("the page of %s, all 0 from %d on: %s, %d", tell(p), from, tell(got), err)
				}
			}
		})
	}
}

// The end mark tells it where no sum does: what is left of the body has the sum 0, and 0 stands there.
func TestP8_6ASumThatIsRightAllTheSame(t *testing.T) {
	base := metaOf(258, 300, 7, 2, 1000, 299, 3)
	for _, from := range []int{12, 13, 20, 29, 34, 37, 1000, 4088, 4089, 4090, 4091} {
		p := withSum(t, base, from, 0)
		b := mustEncode(t, p)
		wantValue(t, b, p)
		wantNoValue(t, "a head cut short under a right sum", cut(b, from), api.ErrMeta)
	}
}

// The sum tells it where the body is whole; where the sum ended in zeros, nothing was cut.
func TestP8_6OnlyTheSumCutShort(t *testing.T) {
	base := metaOf(258, 300, 7, 2, 1000, 299, 3)
	for _, x := range []struct {
		sum  uint32
		kept int // bytes that must be left for the page to be whole
	}{{0, 4092}, {1, 4093}, {0xff, 4093}, {0xffff, 4094}, {0xff00, 4094}, {0xffffff, 4095}, {0x00ff0000, 4095}, {0x01000000, 4096}, {0xffffffff, 4096}} {
		p := withSum(t, base, 4092, x.sum)
		b := mustEncode(t, p)
		for from := 4092; from <= 4096; from++ {
			if from >= x.kept {
				wantValue(t, cut(b, from), p)
			} else {
				wantNoValue(t, "a head without its whole sum", cut(b, from), api.ErrSum)
			}
		}
	}
}
