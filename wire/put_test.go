package wire_test

import (
	"bytes"
	"testing"

	"coppice/wire"
)

// Kinds of numbers of the caller's own have the width of what they are made of.
type (
	own8  uint8
	own16 uint16
	own32 uint32
	own64 uint64
)

// edges are numbers on both sides of where a byte, a group or a width ends.
func edges() []uint64 {
	out := []uint64{0, 1, 2, 126, 127, 128, 129, 255, 256, 258, 1201, 16383, 16384, 0x0102030405060708, 0xf1e2d3c4b5a69788}
	for bit := range 64 {
		p := uint64(1) << bit
		out = append(out, p-1, p, p+1, ^p, -p)
	}
	return out
}

// plainForm is the least form by the words of the chapter: the digits of x to the base 128.
func plainForm(x uint64) []byte {
	digits := []byte{byte(x % 128)}
	for x /= 128; x > 0; x /= 128 {
		digits = append(digits, byte(x%128))
	}
	for i := range len(digits) - 1 {
		digits[i] += 128
	}
	return digits
}

func wantBytes(t *testing.T, what string, got []byte, want ...byte) {
	t.Helper()
	if !bytes.Equal(got, want) {
		t.Errorf("%s: got % x, want % x", what, got, want)
	}
}

func TestP1_1PutExamples(t *testing.T) {
	wantBytes(t, "uint16 258", wire.Put(nil, uint16(258)), 2, 1)
	wantBytes(t, "uint8 255 behind 07", wire.Put([]byte{7}, uint8(255)), 7, 255)
	wantBytes(t, "uint32 1", wire.Put(nil, uint32(1)), 1, 0, 0, 0)
	wantBytes(t, "uint64 1<<63", wire.Put(nil, uint64(1<<63)), 0, 0, 0, 0, 0, 0, 0, 128)
}

func TestP1_1PutEveryWidth(t *testing.T) {
	b := []byte{9, 8}
	wantBytes(t, "uint8", wire.Put(b, uint8(0xa1)), 9, 8, 0xa1)
	wantBytes(t, "uint16", wire.Put(b, uint16(0xa1b2)), 9, 8, 0xb2, 0xa1)
	wantBytes(t, "uint32", wire.Put(b, uint32(0xa1b2c3d4)), 9, 8, 0xd4, 0xc3, 0xb2, 0xa1)
	wantBytes(t, "uint64", wire.Put(b, uint64(0xa1b2c3d4e5f60718)), 9, 8, 0x18, 7, 0xf6, 0xe5, 0xd4, 0xc3, 0xb2, 0xa1)
	wantBytes(t, "own8", wire.Put(b, own8(0xa1)), 9, 8, 0xa1)
	wantBytes(t, "own16", wire.Put(b, own16(0xa1b2)), 9, 8, 0xb2, 0xa1)
	wantBytes(t, "own32", wire.Put(b, own32(0xa1b2c3d4)), 9, 8, 0xd4, 0xc3, 0xb2, 0xa1)
	wantBytes(t, "own64", wire.Put(b, own64(1)), 9, 8, 1, 0, 0, 0, 0, 0, 0, 0)
}

// TestP1_1PutEdges: a zero takes as many bytes as any other number of its type.
func TestP1_1PutEdges(t *testing.T) {
	for _, x := range edges() {
		var want []byte
		for rest := x; len(want) < 8; rest /= 256 {
			want = append(want, byte(rest%256))
		}
		wantBytes(t, "uint8", wire.Put([]byte{}, uint8(x)), want[:1]...)
		wantBytes(t, "uint16", wire.Put([]byte{}, uint16(x)), want[:2]...)
		wantBytes(t, "uint32", wire.Put([]byte{}, uint32(x)), want[:4]...)
		wantBytes(t, "uint64", wire.Put([]byte{}, x), want...)
	}
}

func TestP1_1PutVExamples(t *testing.T) {
	wantBytes(t, "0", wire.PutV(nil, 0), 0)
	wantBytes(t, "127", wire.PutV(nil, 127), 127)
	wantBytes(t, "128", wire.PutV(nil, 128), 128, 1)
	wantBytes(t, "1201 behind 07", wire.PutV([]byte{7}, 1201), 7, 0xb1, 9)
	wantBytes(t, "2^64 - 1", wire.PutV(nil, 1<<64-1), 255, 255, 255, 255, 255, 255, 255, 255, 255, 1)
}

func TestP1_1PutVIsTheLeastForm(t *testing.T) {
	for _, x := range edges() {
		wantBytes(t, "behind nothing", wire.PutV(nil, x), plainForm(x)...)
		wantBytes(t, "behind 80 00", wire.PutV([]byte{128, 0}, x), append([]byte{128, 0}, plainForm(x)...)...)
	}
}

func TestP1_2VLenExamples(t *testing.T) {
	for _, c := range []struct {
		x    uint64
		want int
	}{{0, 1}, {127, 1}, {128, 2}, {16383, 2}, {16384, 3}, {1<<63 - 1, 9}, {1 << 63, 10}, {1<<64 - 1, 10}} {
		if got := wire.VLen(c.x); got != c.want {
			t.Errorf("VLen(%d) = %d, want %d", c.x, got, c.want)
		}
	}
}

func TestP1_2VLenIsTheLengthOfTheLeastForm(t *testing.T) {
	reached := map[int]int{}
	for _, x := range edges() {
		want := len(plainForm(x))
		if got := wire.VLen(x); got != want {
			t.Errorf("VLen(%d) = %d, want %d", x, got, want)
		}
		reached[want]++
	}
	if len(reached) != 10 {
		t.Errorf("the edges have forms of %d lengths, want all ten", len(reached))
	}
}
