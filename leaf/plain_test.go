package leaf_test

import (
	"bytes"
	"fmt"
	"slices"
	"strings"
	"testing"

	"coppice/api"
	"coppice/leaf"
)

// inline is an item whose value stands in it.
func inline(key, value string) api.Item {
	return api.Item{Key: []byte(key), Value: []byte(value), Size: len(value)}
}

// sized is an item with a value of that many bytes in it.
func sized(key string, size int) api.Item { return inline(key, strings.Repeat("v", size)) }

// chained is an item whose value lies in a chain.
func chained(key string, size, first int) api.Item {
	return api.Item{Key: []byte(key), Size: size, First: first}
}

// xs is a key of n bytes.
func xs(n int) string { return strings.Repeat("x", n) }

// plainV is a number's least form, written without package wire.
func plainV(x uint64) []byte {
	if x < 128 {
		return []byte{byte(x)}
	}
	return append([]byte{byte(x%128 + 128)}, plainV(x/128)...)
}

// plainNumber is a number in n bytes, the lowest first.
func plainNumber(x, n int) []byte {
	var out []byte
	for range n {
		out = append(out, byte(x%256))
		x /= 256
	}
	return out
}

// plainPrefix is the longest beginning that all keys have in common, sought from the longest on.
func plainPrefix(items []api.Item) []byte {
	if len(items) == 0 {
		return nil
	}
	for n := len(items[0].Key); n > 0; n-- {
		head := items[0].Key[:n]
		if !slices.ContainsFunc(items, func(it api.Item) bool { return !bytes.HasPrefix(it.Key, head) }) {
			return head
		}
	}
	return nil
}

// plainSize adds up P4.1's numbers.
func plainSize(items []api.Item) int {
	p := len(plainPrefix(items))
	n := 3 + len(plainV(uint64(p))) + p
	for _, it := range items {
		s := len(it.Key) - p
		size := it.Size
		if size < 0 {
			size = 0
		}
		if size > 262144 {
			size = 262144
		}
		n += 2 + len(plainV(uint64(s))) + s
		if size > 512 {
			n += len(plainV(uint64(2*size+1))) + 4
		} else {
			n += len(plainV(uint64(2*size))) + size
		}
	}
	return n
}

// plainError goes through the chapter's errors one after the other.
func plainError(items []api.Item) api.Errno {
	if len(items) == 0 {
		return api.ErrLeaf
	}
	for _, it := range items {
		if len(it.Key) == 0 || len(it.Key) > 255 || it.Size < 0 || it.Size > 262144 {
			return api.ErrSize
		}
	}
	for _, it := range items {
		if it.Size <= 512 && (len(it.Value) != it.Size || it.First != 0) {
			return api.ErrLeaf
		}
		if it.Size > 512 && (len(it.Value) != 0 || it.First < 2 || it.First > 524286) {
			return api.ErrLeaf
		}
	}
	for i := 1; i < len(items); i++ {
		if string(items[i].Key) <= string(items[i-1].Key) {
			return api.ErrOrder
		}
	}
	return api.OK
}

// plainCell is an item's cell behind a beginning of p bytes.
func plainCell(it api.Item, p int) []byte {
	rest := it.Key[p:]
	out := append(plainV(uint64(len(rest))), rest...)
	if it.Size > 512 {
		out = append(out, plainV(uint64(2*it.Size+1))...)
		return append(out, plainNumber(it.First, 4)...)
	}
	out = append(out, plainV(uint64(2*it.Size))...)
	return append(out, it.Value...)
}

// draft is a body in its parts, so that a test may spoil one of them and leave the others.
type draft struct {
	kind   byte
	count  int
	length []byte // of what the keys have in common
	prefix []byte
	slots  []int
	cells  [][]byte
}

// draftOf is the draft of the items' body, with a beginning of p bytes.
func draftOf(items []api.Item, p int) draft {
	d := draft{kind: 1, count: len(items), length: plainV(uint64(p)), prefix: bytes.Clone(items[0].Key[:p])}
	for _, it := range items {
		d.cells = append(d.cells, plainCell(it, p))
	}
	d.place()
	return d
}

// place lays the slots anew, one cell right behind the other.
func (d *draft) place() {
	at := 3 + len(d.length) + len(d.prefix) + 2*len(d.cells)
	d.slots = nil
	for _, c := range d.cells {
		d.slots = append(d.slots, at)
		at += len(c)
	}
}

// bytes are those that are used.
func (d draft) bytes() []byte {
	out := append([]byte{d.kind}, plainNumber(d.count, 2)...)
	out = append(append(out, d.length...), d.prefix...)
	for _, s := range d.slots {
		out = append(out, plainNumber(s, 2)...)
	}
	for _, c := range d.cells {
		out = append(out, c...)
	}
	return out
}

// padded lays zeros behind b up to a body's length.
func padded(t *testing.T, b []byte) []byte {
	t.Helper()
	if len(b) > 4092 {
		t.Fatalf("a body of %d bytes", len(b))
	}
	return append(b, make([]byte, 4092-len(b))...)
}

// plainBody is the body of items that may be and fit.
func plainBody(t *testing.T, items []api.Item) []byte {
	t.Helper()
	return padded(t, draftOf(items, len(plainPrefix(items))).bytes())
}

// same tells whether two lists of items are the same, nil and the empty list being one.
func same(a, b []api.Item) bool {
	return slices.EqualFunc(a, b, func(x, y api.Item) bool {
		return bytes.Equal(x.Key, y.Key) && bytes.Equal(x.Value, y.Value) && x.Size == y.Size && x.First == y.First
	})
}

// tell is a list of items in few words.
func tell(items []api.Item) string {
	var b strings.Builder
	for i, it := range items {
		if i == 4 {
			b.WriteString(" ..")
			break
		}
		fmt.Fprintf(&b, " %.20q(%d bytes, first %d)", it.Key, it.Size, it.First)
	}
	return b.String()
}

// noise answers one number behind the other, always the same ones.
func noise(seed uint64) func(n int) int {
	return func(n int) int {
		seed = seed*6364136223846793005 + 1442695040888963407
		return int((seed >> 33) % uint64(n))
	}
}

// anyKey is a key of noise over few letters, so that many keys begin alike.
func anyKey(next func(int) int, least, most int) []byte {
	key := make([]byte, least+next(most-least+1))
	for i := range key {
		key[i] = "aab\x00\xff"[next(5)]
	}
	return key
}

// anyItems are items that may be: by rising keys, all behind one beginning.
func anyItems(next func(int) int, n int) []api.Item {
	head := anyKey(next, 0, []int{0, 3, 126, 127, 128, 130}[next(6)])
	var l []api.Item
	for range n {
		it := api.Item{Key: append(bytes.Clone(head), anyKey(next, 1, 6)...)}
		it.Size = []int{0, 1, 2, 7, 63, 64, 65, 512, 513, 8191, 8192, 262143, 262144}[next(13)]
		if it.Size > 512 {
			it.First = []int{2, 3, 255, 256, 65536, 524286}[next(6)]
		} else {
			it.Value = bytes.Repeat([]byte{byte(next(256))}, it.Size)
		}
		l = append(l, it)
	}
	slices.SortFunc(l, func(a, b api.Item) int { return bytes.Compare(a.Key, b.Key) })
	return slices.CompactFunc(l, func(a, b api.Item) bool { return bytes.Equal(a.Key, b.Key) })
}

// likely are lists of items that may be and fit, with the edges that the chapter names.
func likely() [][]api.Item {
	l := [][]api.Item{
		{inline("a", "x")},
		{inline("a", "")},
		{inline("ab", ""), inline("abc", "yz")},
		{inline("a", "x"), inline("b", "y")},
		{chained("k", 600, 9)},
		{inline("a", "1"), inline("aa", "2"), inline("ab", "3"), inline("b", "4")},
		{inline("\x00", "\x00"), inline("\x00\x00", "\x00\x00"), inline("\xff", "\xff")},
		{inline("a", "1"), inline("a\x00", ""), inline("a\x00\x00", "")},
		{inline(xs(255), "z")},
		{inline(xs(254), ""), inline(xs(255), "")},
		{inline(xs(127)+"a", "1"), inline(xs(127)+"b", "2")},
		{inline(xs(128)+"a", "1"), inline(xs(128)+"b", "2")},
		{inline(xs(127), "1"), inline(xs(128), "2")},
		{inline(xs(128), "1"), inline(xs(129), "2")},
		{inline("a", ""), inline("b"+xs(126), ""), inline("c"+xs(127), ""), inline("d"+xs(254), "")},
		{sized("a", 63), sized("b", 64), sized("c", 511), sized("d", 512)},
		{chained("a", 513, 2), chained("b", 8191, 524286), chained("c", 8192, 255), chained("d", 262144, 256)},
		{inline("a", "in"), chained("b", 1000, 77), inline("c", "in")},
	}
	next := noise(4)
	for n := 1; n <= 40; n++ {
		items := anyItems(next, n)
		for plainSize(items) > 4092 {
			items = items[1:]
		}
		l = append(l, items)
	}
	return append(l, crowd(467), crowd(3), full(), fullChained())
}

// crowd are items without values: one's key begins all others, 256 have one byte more, n have two.
// Of 467 the body is one byte short of full; no leaf has more items.
func crowd(n int) []api.Item {
	l := []api.Item{inline("k", "")}
	for i := range 256 {
		l = append(l, inline(string([]byte{'k', byte(i)}), ""))
	}
	for i := range n {
		l = append(l, inline(string([]byte{'k', byte(i / 256), byte(i)}), ""))
	}
	slices.SortFunc(l, func(a, b api.Item) int { return bytes.Compare(a.Key, b.Key) })
	return l
}

// full are items whose body has no byte left.
func full() []api.Item {
	var l []api.Item
	for _, key := range strings.Split("abcdefgh", "") {
		l = append(l, sized(key, 500))
	}
	return fill(l, 4092)
}

// fullChained are items whose body has no byte left, the last one chained.
func fullChained() []api.Item {
	return fill(append(full(), chained("i", 513, 2)), 4092)
}

// fill makes the first values longer or shorter till the items have that Size.
func fill(items []api.Item, size int) []api.Item {
	for i := range items[:len(items)-1] {
		for n := range 513 {
			items[i] = sized(string(items[i].Key), n)
			if plainSize(items) == size {
				return items
			}
		}
	}
	panic("these items do not come to that size")
}

// mustEncode is the body of items that may be and fit.
func mustEncode(t *testing.T, items []api.Item) []byte {
	t.Helper()
	b, err := leaf.Encode(items)
	if err != api.OK {
		t.Fatalf("Encode(%s): %d", tell(items), err)
	}
	return b
}
