package chain_test

import (
	"bytes"
	"math"
	"testing"

	"coppice/chain"
)

func TestP6_1Examples(t *testing.T) {
	for size, want := range map[int]int{512: 0, 513: 1, 4085: 1, 4086: 2, 262144: 65, 262145: 0, -1: 0} {
		if n := chain.Pages(size); n != want {
			t.Errorf("Pages(%d) = %d, not %d", size, n, want)
		}
	}
}

func TestP6_1Edges(t *testing.T) {
	for size, want := range map[int]int{
		math.MinInt: 0, -1 << 32: 0, -4085: 0, -513: 0, 0: 0, 1: 0, 511: 0, 514: 1, 4084: 1, 8170: 2, 8171: 3,
		261440: 64, 261441: 65, 262143: 65, 262146: 0, 265525: 0, 265526: 0, 1 << 31: 0, 1<<32 + 513: 0,
		math.MaxInt - 4085: 0, math.MaxInt - 1: 0, math.MaxInt: 0,
	} {
		if n := chain.Pages(size); n != want {
			t.Errorf("Pages(%d) = %d, not %d", size, n, want)
		}
	}
}

// Every size that a value may have, and some on both sides: a page more whenever 4085 bytes are full.
func TestP6_1EverySize(t *testing.T) {
	full, rest := 0, 0
	for size := -5000; size <= 270000; size++ {
		if size > 0 {
			rest++
		}
		if rest > 4085 {
			full, rest = full+1, 1
		}
		want := full + 1
		if size < 513 || size > 262144 {
			want = 0
		}
		if n := chain.Pages(size); n != want {
			t.Fatalf("Pages(%d) = %d, not %d", size, n, want)
		}
	}
}

// wantPieces asks that the pieces are the value's: all but the last one of 4085 bytes, the last one of what is left.
func wantPieces(t *testing.T, value []byte) {
	t.Helper()
	left := value
	for i, piece := range chain.Pieces(value) {
		n := min(len(left), 4085)
		if len(left) == 0 || !bytes.Equal(piece, left[:n]) {
			t.Fatalf("piece %d of %d bytes has %d bytes, where %d are left, or others", i, len(value), len(piece), len(left))
		}
		left = left[n:]
	}
	if len(left) > 0 {
		t.Fatalf("%d of %d bytes are in no piece", len(left), len(value))
	}
}

func TestP6_2Pieces(t *testing.T) {
	for _, n := range []int{513, 514, 4084, 4085, 4086, 4087, 8169, 8170, 8171, 9000, 12255, 12256, 100000, 261439, 261440, 261441, 262143, 262144} {
		wantPieces(t, someBytes(n))
		wantPieces(t, make([]byte, n))
	}
}

func TestP6_2EveryLengthOfAFewPages(t *testing.T) {
	value := someBytes(12300)
	for n := 513; n <= len(value); n++ {
		wantPieces(t, value[:n])
	}
}

func TestP6_2AnyValue(t *testing.T) {
	next := noise(62)
	for range 200 {
		wantPieces(t, anyData(next, 513+next(262144-512)))
	}
}

func TestP6_2NoPieces(t *testing.T) {
	value := someBytes(1 << 20)
	for n := range 513 {
		if p := chain.Pieces(value[:n]); len(p) != 0 {
			t.Errorf("%d bytes have %d pieces", n, len(p))
		}
	}
	for _, n := range []int{262145, 262146, 265525, 265526, 300000, 1 << 20} {
		if p := chain.Pieces(value[:n]); len(p) != 0 {
			t.Errorf("%d bytes have %d pieces", n, len(p))
		}
	}
	if p := chain.Pieces(nil); len(p) != 0 {
		t.Errorf("nil has %d pieces", len(p))
	}
}

// Room behind a value is no part of it.
func TestP6_2SpareRoomIsNoPiece(t *testing.T) {
	value := someBytes(300000)
	for _, n := range []int{513, 4085, 4086, 8170, 262144} {
		wantPieces(t, value[:n])
	}
	if p := chain.Pieces(value[:512]); len(p) != 0 {
		t.Errorf("512 bytes with room behind them have %d pieces", len(p))
	}
}
