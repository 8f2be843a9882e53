package crc_test

import (
	"bytes"
	"testing"

	"coppice/api"
	"coppice/crc"
)

// turnBit turns one bit, counted from the first byte on, in each byte from its lowest bit on.
func turnBit(b []byte, at int) { b[at/8] ^= 1 << (at % 8) }

// turnRun turns those of 32 bits in a row that pattern has; where the list ends ahead of them, those that there are.
func turnRun(b []byte, at int, pattern uint32) {
	for i := range 32 {
		if pattern>>i&1 == 1 && at+i < 8*len(b) {
			turnBit(b, at+i)
		}
	}
}

// runs are patterns whose first bit is turned, so that each of them turns something wherever it is laid.
func runs() []uint32 {
	all := []uint32{1, 3, 1<<31 + 1, 0xFFFFFFFF, 0xEDB88321, 0x04C11DB7, 0x82608EDB, 0x80808081, 0x55555555}
	for seed := range uint64(8) {
		n := noise(seed, 4)
		all = append(all, 1|uint32(n[0])|uint32(n[1])<<8|uint32(n[2])<<16|uint32(n[3])<<24)
	}
	return all
}

func TestP2_9RunsInAList(t *testing.T) {
	for _, n := range []int{1, 2, 4, 5, 40} {
		b := noise(uint64(n), n)
		sum := crc.Sum(b)
		for at := range 8 * n {
			for _, pattern := range runs() {
				other := bytes.Clone(b)
				turnRun(other, at, pattern)
				if crc.Sum(other) == sum {
					t.Errorf("%d bytes: %08X turned from bit %d on is not told", n, pattern, at)
				}
			}
		}
	}
}

// TestP2_9AllOfTwoBytes: any two unlike lists of two bytes differ within 32 places.
func TestP2_9AllOfTwoBytes(t *testing.T) {
	seen := make(map[uint32]bool)
	for x := range 1 << 16 {
		seen[crc.Sum([]byte{byte(x), byte(x >> 8)})] = true
	}
	if len(seen) != 1<<16 {
		t.Errorf("65536 lists of two bytes have %d sums", len(seen))
	}
}

func TestP2_9TwoBitsInAList(t *testing.T) {
	for _, n := range []int{5, 30} {
		b := noise(uint64(n), n)
		sum := crc.Sum(b)
		for i := range 8 * n {
			for j := range i {
				other := bytes.Clone(b)
				turnBit(other, i)
				turnBit(other, j)
				if crc.Sum(other) == sum {
					t.Errorf("%d bytes: the bits %d and %d turned are not told", n, j, i)
				}
			}
		}
	}
}

func TestP2_9TwoBitsFarApart(t *testing.T) {
	b := noise(9, 1<<20)
	sum := crc.Sum(b)
	last := 8*len(b) - 1
	for _, x := range [][2]int{{0, last}, {1, last}, {0, last - 1}, {7, 65535 + 7}, {0, 1 << 16}, {0, 1<<16 - 1}, {100, 1<<20 + 99}, {last - 1<<22, last}} {
		turnBit(b, x[0])
		turnBit(b, x[1])
		if crc.Sum(b) == sum {
			t.Errorf("the bits %d and %d turned are not told", x[0], x[1])
		}
		turnBit(b, x[0])
		turnBit(b, x[1])
	}
}

// TestP2_9PagesTurned lays runs and pairs of bits over the body, the sum and the line between them.
func TestP2_9PagesTurned(t *testing.T) {
	page := wantSeal(t, noise(7, api.BodySize))
	const bits, sum = 8 * api.PageSize, 8 * api.BodySize
	var places []int
	for at := 0; at < bits; at += 97 {
		places = append(places, at)
	}
	for at := sum - 40; at < bits; at++ {
		places = append(places, at)
	}
	for _, at := range places {
		for _, pattern := range runs() {
			other := bytes.Clone(page)
			turnRun(other, at, pattern)
			body, err := crc.Open(other)
			wantRefused(t, "Open of a page with a run turned", body, err, api.ErrSum)
		}
		for _, with := range []int{0, 5000, sum - 1, sum, sum + 31} {
			if with == at {
				continue
			}
			other := bytes.Clone(page)
			turnBit(other, at)
			turnBit(other, with)
			body, err := crc.Open(other)
			wantRefused(t, "Open of a page with two bits turned", body, err, api.ErrSum)
		}
	}
}
