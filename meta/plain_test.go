package meta_test

import (
	"encoding/hex"
	"math"
	"slices"
	"strings"
	"testing"

	"coppice/api"
)

// plainNumber is a number in n bytes, the lowest first, written without package wire.
func plainNumber(x uint64, n int) []byte {
	var out []byte
	for range n {
		out = append(out, byte(x))
		x >>= 8
	}
	return out
}

// plainRead reads a number of n bytes.
func plainRead(b []byte, n int) uint64 {
	var x uint64
	for i := n - 1; i >= 0; i-- {
		x = 256*x + uint64(b[i])
	}
	return x
}

// plainBody is the body of a head, whether it may be or not; of a number that is too great the lowest bytes.
func plainBody(h api.Head) []byte {
	return slices.Concat(
		[]byte{5, 'c', 'o', 'p'},
		plainNumber(uint64(h.Version), 8),
		plainNumber(uint64(h.Count), 4),
		plainNumber(uint64(h.Root), 4),
		plainNumber(uint64(h.Height), 1),
		plainNumber(uint64(h.Keys), 8),
		plainNumber(uint64(h.First), 4),
		plainNumber(uint64(h.Free), 4),
		make([]byte, 4051),
		[]byte("end."),
	)
}

// plainMayBe goes through the chapter's words one after the other.
func plainMayBe(h api.Head) bool {
	if h.Version < 1 || h.Version > 4611686018427387904 {
		return false
	}
	if h.Count < 2 || h.Count > 524287 {
		return false
	}
	if h.Root != 0 && (h.Root < 2 || h.Root > h.Count-1) {
		return false
	}
	if h.Height < 0 || h.Height > 16 || (h.Height == 0) != (h.Root == 0) {
		return false
	}
	if h.Keys < 0 || h.Keys > 4294967295 || (h.Keys == 0) != (h.Root == 0) {
		return false
	}
	if h.First != 0 && (h.First < 2 || h.First > h.Count-1) {
		return false
	}
	return h.Free >= 0 && h.Free <= h.Count-2 && (h.Free == 0) == (h.First == 0)
}

// plainDecode reads a body strictly, asking at every place for what must stand there; it lays out nothing.
func plainDecode(body []byte) (api.Head, bool) {
	if len(body) != 4092 || string(body[:4]) != "\x05cop" || string(body[4088:]) != "end." {
		return api.Head{}, false
	}
	for _, x := range body[37:4088] {
		if x != 0 {
			return api.Head{}, false
		}
	}
	version, keys := plainRead(body[4:], 8), plainRead(body[21:], 8)
	if version > math.MaxInt || keys > math.MaxInt {
		return api.Head{}, false
	}
	h := api.Head{
		Version: int(version),
		Count:   int(plainRead(body[12:], 4)),
		Root:    int(plainRead(body[16:], 4)),
		Height:  int(body[20]),
		Keys:    int(keys),
		First:   int(plainRead(body[29:], 4)),
		Free:    int(plainRead(body[33:], 4)),
	}
	if !plainMayBe(h) {
		return api.Head{}, false
	}
	return h, true
}

// head is a head of these numbers, as the chapter's examples have them.
func head(version, count, root, height, keys, first, free int) api.Head {
	return api.Head{Version: version, Count: count, Root: root, Height: height, Keys: keys, First: first, Free: free}
}

// fromHex is a body whose first bytes are written as the chapter's examples are.
func fromHex(t *testing.T, text string) []byte {
	t.Helper()
	b, err := hex.DecodeString(strings.ReplaceAll(text, " ", ""))
	if err != nil || len(b) > 4088 {
		t.Fatalf("%s: %v", text, err)
	}
	return slices.Concat(b, make([]byte, 4088-len(b)), []byte{0x65, 0x6e, 0x64, 0x2e})
}

// noise answers one number behind the other, always the same ones.
func noise(seed uint64) func(n int) int {
	return func(n int) int {
		seed = seed*6364136223846793005 + 1442695040888963407
		return int((seed >> 33) % uint64(n))
	}
}

// anyHead is a head of noise that may be.
func anyHead(next func(int) int) api.Head {
	h := api.Head{Version: 1 + next(1<<30)<<next(32), Count: 2 + next([]int{5, 300, 524286}[next(3)])}
	if h.Count > 2 && next(4) > 0 {
		h.Root = 2 + next(h.Count-2)
		h.Height = 1 + next(16)
		h.Keys = 1 + next(1<<31-1)<<next(2)
	}
	if h.Count > 2 && next(4) > 0 {
		h.First = 2 + next(h.Count-2)
		h.Free = 1 + next(h.Count-2)
	}
	return h
}

// likely are heads that may be, with the edges that the chapter names.
func likely() []api.Head {
	l := []api.Head{
		head(1, 2, 0, 0, 0, 0, 0),
		head(258, 300, 7, 2, 1000, 299, 3),
		head(1<<62, 524287, 524286, 16, 1<<32-1, 524286, 524285),
		head(1<<62-1, 524287, 2, 1, 1, 2, 1),
		head(0x0123456789abcdef, 0x07fedc, 0x06abcd, 14, 0x89abcdef, 0x054321, 0x012345),
		head(2, 3, 2, 1, 1, 0, 0),
		head(3, 3, 0, 0, 0, 2, 1),
		head(4, 3, 2, 1, 1, 2, 1),
		head(5, 524287, 0, 0, 0, 0, 0),
		head(6, 256, 255, 3, 255, 0, 0),
		head(7, 65536, 256, 3, 256, 65535, 65534),
		head(255, 65537, 65536, 4, 65536, 255, 256),
		head(256, 257, 0, 0, 0, 256, 255),
		head(65535, 4, 3, 16, 1<<32-1, 0, 0),
		head(1<<32-1, 4, 3, 1, 1<<24, 2, 2),
		head(1<<32, 4, 2, 2, 1<<31, 3, 1),
		// Bytes of the marks where the numbers stand.
		head(0x2e646e65706f6305, 0x06646e, 0, 0, 0, 0x036f70, 0x02646e),
	}
	next := noise(7)
	for range 40 {
		l = append(l, anyHead(next))
	}
	return l
}

// field is one number of a head: where it stands, and the values by which it is tried beside the head's count.
type field struct {
	name   string
	in     func(h *api.Head) *int
	values func(count int) []int
}

// fields are all of them, with the edges that the chapter names, and values whose lowest bytes would be good ones.
func fields() []field {
	pages := func(count int) []int {
		return []int{math.MinInt, -1 << 32, -2, -1, 0, 1, 2, 3, count - 2, count - 1, count, count + 1, 524286, 524287, 524288, 1<<31 + 2, 1<<32 - 1, 1 << 32, 1<<32 + 2, math.MaxInt}
	}
	return []field{
		{"Version", func(h *api.Head) *int { return &h.Version }, func(int) []int {
			return []int{math.MinInt, -1 << 62, -258, -2, -1, 0, 1, 2, 258, 1<<62 - 1, 1 << 62, 1<<62 + 1, math.MaxInt}
		}},
		{"Count", func(h *api.Head) *int { return &h.Count }, func(count int) []int {
			return append(pages(count), -300, 4, 300, 524285, 1<<32+3, 1<<32+300)
		}},
		{"Root", func(h *api.Head) *int { return &h.Root }, pages},
		{"Height", func(h *api.Head) *int { return &h.Height }, func(int) []int {
			return []int{math.MinInt, -256, -1, 0, 1, 2, 15, 16, 17, 127, 128, 255, 256, 257, 258, 1 << 32, 1<<32 + 1, math.MaxInt}
		}},
		{"Keys", func(h *api.Head) *int { return &h.Keys }, func(int) []int {
			return []int{math.MinInt, -1 << 32, -1, 0, 1, 2, 1000, 1 << 31, 1<<32 - 2, 1<<32 - 1, 1 << 32, 1<<32 + 1, 1 << 62, math.MaxInt}
		}},
		{"First", func(h *api.Head) *int { return &h.First }, pages},
		{"Free", func(h *api.Head) *int { return &h.Free }, func(count int) []int {
			return append(pages(count), count-3, 1<<32+1)
		}},
	}
}

// bases are heads that may be, with and without a tree, with and without frees, small and great.
func bases() []api.Head {
	return []api.Head{
		head(1, 2, 0, 0, 0, 0, 0),
		head(258, 300, 7, 2, 1000, 299, 3),
		head(258, 300, 0, 0, 0, 299, 298),
		head(259, 300, 299, 16, 1<<32-1, 0, 0),
		head(2, 3, 2, 1, 1, 2, 1),
		head(1<<62, 524287, 524286, 16, 1<<32-1, 524286, 524285),
		head(7, 524287, 0, 0, 0, 0, 0),
	}
}

// turned are the bases with one of their numbers, or two of them, put otherwise.
func turned() []api.Head {
	l := bases()
	all := fields()
	for _, base := range bases() {
		for i, one := range all {
			for _, x := range one.values(base.Count) {
				h := base
				*one.in(&h) = x
				l = append(l, h)
				for _, two := range all[i+1:] {
					for _, y := range two.values(base.Count) {
						g := h
						*two.in(&g) = y
						l = append(l, g)
					}
				}
			}
		}
	}
	return l
}
