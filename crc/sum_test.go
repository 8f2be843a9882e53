package crc_test

import (
	"bytes"
	"testing"

	"coppice/crc"
)

// plainUpdate does what the chapter's words say, bit by bit.
func plainUpdate(c uint32, b []byte) uint32 {
	register := ^c
	for _, x := range b {
		register ^= uint32(x)
		for range 8 {
			fell := register & 1
			register >>= 1
			if fell == 1 {
				register ^= 0xEDB88320
			}
		}
	}
	return ^register
}

// noise is a list of bytes without a plain pattern, the same one for the same seed.
func noise(seed uint64, n int) []byte {
	b := make([]byte, n)
	for i := range b {
		seed = seed*6364136223846793005 + 1442695040888963407
		b[i] = byte(seed >> 56)
	}
	return b
}

// lists are lists of many lengths and kinds.
func lists() [][]byte {
	all := [][]byte{nil, {}, []byte("123456789"), []byte("coppice"), []byte("coppice wood")}
	for x := range 256 {
		all = append(all, []byte{byte(x)})
	}
	for _, n := range []int{2, 3, 4, 5, 7, 8, 9, 15, 16, 17, 31, 64, 100, 255, 256, 257, 4091, 4092, 4093, 4096, 70000} {
		all = append(all, make([]byte, n), bytes.Repeat([]byte{255}, n), noise(uint64(n), n))
	}
	return all
}

func registers() []uint32 {
	all := []uint32{0, 1, 2, 15, 16, 255, 256, 0x787329C6, 0xEDB88320, 0x2144DF1C, 0x7FFFFFFF, 0x80000000, 0xFFFFFFFE, 0xFFFFFFFF}
	for i := range 32 {
		all = append(all, 1<<i, ^uint32(1<<i))
	}
	return all
}

func wantSum(t *testing.T, what string, got, want uint32) {
	t.Helper()
	if got != want {
		t.Errorf("%s = %08X, want %08X", what, got, want)
	}
}

func TestP2_1Examples(t *testing.T) {
	for _, x := range []struct {
		b    string
		want uint32
	}{
		{"", 0},
		{"123456789", 0xCBF43926},
		{"\x00", 0xD202EF8D},
		{"coppice", 0x787329C6},
		{" wood", 0x1A3A1E08},
		{"coppice wood", 0x1004C630},
		{string(make([]byte, 4092)), 0x603B0489},
	} {
		wantSum(t, "Sum", crc.Sum([]byte(x.b)), x.want)
	}
	wantSum(t, "Sum of nil", crc.Sum(nil), 0)
}

func TestP2_1SumByTheWords(t *testing.T) {
	for _, b := range lists() {
		wantSum(t, "Sum", crc.Sum(b), plainUpdate(0, b))
	}
}

func TestP2_1OrderOfBytesCounts(t *testing.T) {
	if crc.Sum([]byte{1, 2}) == crc.Sum([]byte{2, 1}) {
		t.Error("two bytes and the same two turned round have one sum")
	}
}

func TestP2_2Examples(t *testing.T) {
	wantSum(t, "Update", crc.Update(0x787329C6, []byte(" wood")), 0x1004C630)
	wantSum(t, "Update of none", crc.Update(1, nil), 1)
}

func TestP2_2UpdateByTheWords(t *testing.T) {
	for _, c := range registers() {
		for _, b := range lists() {
			if len(b) > 300 {
				continue
			}
			wantSum(t, "Update", crc.Update(c, b), plainUpdate(c, b))
		}
	}
}

func TestP2_6OneBehindTheOther(t *testing.T) {
	for _, b := range lists() {
		sum := crc.Sum(b)
		wantSum(t, "Update(0, b)", crc.Update(0, b), sum)
		for _, at := range []int{0, 1, len(b) / 3, len(b) - 1, len(b)} {
			if at < 0 || at > len(b) {
				continue
			}
			wantSum(t, "Update(Sum(a), b)", crc.Update(crc.Sum(b[:at]), b[at:]), sum)
		}
	}
	for _, c := range registers() {
		wantSum(t, "Update(c, nil)", crc.Update(c, nil), c)
		wantSum(t, "Update(c, none)", crc.Update(c, []byte{}), c)
	}
}

func TestP2_7ASumBehindItsOwnBytes(t *testing.T) {
	for _, b := range lists() {
		wantSum(t, "the sum of bytes and their sum", crc.Sum(withSum(b)), 0x2144DF1C)
	}
}

// withSum is b with its sum behind it, the lowest byte first.
func withSum(b []byte) []byte {
	s := crc.Sum(b)
	return append(bytes.Clone(b), byte(s), byte(s>>8), byte(s>>16), byte(s>>24))
}

func TestP2_10SumsAreLinear(t *testing.T) {
	for _, n := range []int{0, 1, 2, 3, 4, 5, 31, 256, 4092, 4096, 5000} {
		for seed := range uint64(8) {
			a, b, c := noise(seed, n), noise(seed+100, n), noise(seed+200, n)
			all := make([]byte, n)
			for i := range all {
				all[i] = a[i] ^ b[i] ^ c[i]
			}
			wantSum(t, "the sum of three xored", crc.Sum(all), crc.Sum(a)^crc.Sum(b)^crc.Sum(c))
			wantSum(t, "the sum of a list xored with itself twice", crc.Sum(a), crc.Sum(a)^crc.Sum(b)^crc.Sum(b))
		}
	}
}
