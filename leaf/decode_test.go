package leaf_test

import (
	"bytes"
	"encoding/hex"
	"math"
	"slices"
	"strings"
	"testing"

	"coppice/api"
	"coppice/leaf"
)

// wantItems asks that Decode answers the items.
func wantItems(t *testing.T, body []byte, want []api.Item) {
	t.Helper()
	items, err := leaf.Decode(body)
	if err != api.OK || !same(items, want) {
		t.Errorf("Decode(%x): %d,%s, not%s", body[:min(len(body), 40)], err, tell(items), tell(want))
	}
}

// wantRefused asks that Decode answers ErrLeaf, and no items.
func wantRefused(t *testing.T, what string, body []byte) {
	t.Helper()
	if items, err := leaf.Decode(body); err != api.ErrLeaf || items != nil {
		t.Errorf("%s: Decode(%x): %d,%s", what, body[:min(len(body), 40)], err, tell(items))
	}
}

// fromHex is a body written as the chapter's examples are.
func fromHex(t *testing.T, text string) []byte {
	t.Helper()
	b, err := hex.DecodeString(strings.ReplaceAll(text, " ", ""))
	if err != nil {
		t.Fatal(err)
	}
	return padded(t, b)
}

func TestP4_3Examples(t *testing.T) {
	wantItems(t, fromHex(t, "01 0100 01 61 0700 00 02 78"), []api.Item{inline("a", "x")})
	wantItems(t, fromHex(t, "01 0200 02 6162 0a00 0c00 00 00 01 63 04 797a"), []api.Item{inline("ab", ""), inline("abc", "yz")})
	wantItems(t, fromHex(t, "01 0200 00 0800 0c00 01 61 02 78 01 62 02 79"), []api.Item{inline("a", "x"), inline("b", "y")})
	wantItems(t, fromHex(t, "01 0100 01 6b 0700 00 b109 09000000"), []api.Item{chained("k", 600, 9)})
	first := fromHex(t, "01 0100 01 61 0700 00 02 78")
	for at := 10; at < len(first); at++ {
		b := bytes.Clone(first)
		b[at] = 1
		wantRefused(t, "a 1 behind the cells", b)
	}
	wantRefused(t, "another slot", fromHex(t, "01 0100 01 61 0800 00 02 78"))
	wantRefused(t, "4091 bytes", first[:4091])
}

func TestP4_3Bodies(t *testing.T) {
	for _, items := range likely() {
		wantItems(t, plainBody(t, items), items)
	}
}

func TestP4_3OtherLengths(t *testing.T) {
	for _, items := range [][]api.Item{{inline("a", "x")}, crowd(467), full()} {
		body := plainBody(t, items)
		for n := range body {
			wantRefused(t, "a body cut off", body[:n])
		}
		for _, more := range []int{1, 2, 4, 4092, 100000} {
			wantRefused(t, "a body with zeros behind it", append(bytes.Clone(body), make([]byte, more)...))
		}
		wantRefused(t, "two bodies", append(bytes.Clone(body), body...))
	}
	wantRefused(t, "nil", nil)
	wantRefused(t, "no byte", []byte{})
}

func TestP4_3Kinds(t *testing.T) {
	for kind := range 256 {
		d := draftOf([]api.Item{inline("a", "x"), inline("b", "y")}, 0)
		d.kind = byte(kind)
		if kind != api.Leaf {
			wantRefused(t, "another kind", padded(t, d.bytes()))
		}
	}
	wantRefused(t, "zeros", make([]byte, 4092))
	wantRefused(t, "a leaf of zeros", fromHex(t, "01"))
	wantRefused(t, "all 255", bytes.Repeat([]byte{255}, 4092))
}

func TestP4_3Counts(t *testing.T) {
	items := []api.Item{inline("a", "x"), inline("b", "y"), inline("c", "z")}
	for n := range 1 << 16 {
		d := draftOf(items, 0)
		d.count = n
		if n != 3 {
			wantRefused(t, "another count", padded(t, d.bytes()))
		}
	}
	wantRefused(t, "no item", fromHex(t, "01 0000 00"))
	wantRefused(t, "no item, with a beginning", fromHex(t, "01 0000 01 61"))
}

func TestP4_3Slots(t *testing.T) {
	items := []api.Item{inline("aa", "x"), inline("ab", "y"), inline("ac", "z")}
	right := draftOf(items, 1)
	wantItems(t, padded(t, right.bytes()), items)
	for i := range items {
		for at := range 4200 {
			if at == right.slots[i] {
				continue
			}
			d := draftOf(items, 1)
			d.slots[i] = at
			wantRefused(t, "another slot", padded(t, d.bytes()))
		}
	}
	for _, by := range []int{256, 4092, 4096, 32768, 65280} {
		d := draftOf(items, 1)
		d.slots[1] += by
		wantRefused(t, "a slot beyond the body", padded(t, d.bytes()))
	}
	d := draftOf(items, 1)
	slices.Reverse(d.slots)
	wantRefused(t, "slots the other way round", padded(t, d.bytes()))
	d = draftOf(items, 1)
	slices.Reverse(d.cells)
	d.slots = []int{right.slots[2], right.slots[1], right.slots[0]}
	wantRefused(t, "cells the other way round, with their slots", padded(t, d.bytes()))
}

// A byte between two cells, or ahead of the first one, that the slots pass over.
func TestP4_3Gaps(t *testing.T) {
	items := []api.Item{inline("aa", "x"), inline("ab", "y"), inline("ac", "z")}
	for i := range items {
		for _, gap := range []string{"\x00", "\x01", "\x00\x00\x00"} {
			d := draftOf(items, 1)
			d.cells[i] = append([]byte(gap), d.cells[i]...)
			d.place()
			d.slots[i] += len(gap)
			wantRefused(t, "a gap ahead of a cell", padded(t, d.bytes()))
		}
	}
	d := draftOf(items, 1)
	d.cells = [][]byte{d.cells[0], d.cells[1], nil}
	d.slots[2] = d.slots[1]
	wantRefused(t, "two slots of one cell", padded(t, d.bytes()))
}

func TestP4_3NumbersNotInTheirLeastForm(t *testing.T) {
	items := []api.Item{inline("aa", "x"), inline("ab", "")}
	wide := func(x int) []byte { return []byte{byte(x) | 128, 0} }
	wider := func(x int) []byte { return []byte{byte(x) | 128, 128, 0} }
	for _, form := range []func(int) []byte{wide, wider} {
		d := draftOf(items, 1)
		d.length = form(1)
		d.place()
		wantRefused(t, "the common beginning's length", padded(t, d.bytes()))
		for i := range items {
			d = draftOf(items, 1)
			d.cells[i] = append(form(1), d.cells[i][1:]...)
			d.place()
			wantRefused(t, "a rest's length", padded(t, d.bytes()))
			d = draftOf(items, 1)
			c := d.cells[i]
			d.cells[i] = slices.Concat(c[:2], form(int(c[2])), c[3:])
			d.place()
			wantRefused(t, "a tag", padded(t, d.bytes()))
		}
	}
	d := draftOf([]api.Item{chained("k", 600, 9)}, 1)
	d.cells[0] = []byte{0, 0xb1, 0x89, 0, 9, 0, 0, 0}
	wantRefused(t, "a chained item's tag", padded(t, d.bytes()))
}

// Numbers that no body has room for, up to the greatest ones of 64 bits and beyond them.
func TestP4_3NumbersTooGreat(t *testing.T) {
	var forms [][]byte
	for _, x := range []uint64{4092, 4096, 65536, 1 << 31, 1 << 32, 1<<32 + 1, 1 << 62, 1 << 63, 1<<63 + 1, math.MaxUint64 - 1, math.MaxUint64} {
		forms = append(forms, plainV(x))
	}
	forms = append(forms, bytes.Repeat([]byte{255}, 9), bytes.Repeat([]byte{255}, 10), append(bytes.Repeat([]byte{255}, 9), 2))
	items := []api.Item{inline("aa", "x"), inline("ab", "y")}
	for _, form := range forms {
		d := draftOf(items, 1)
		d.length = form
		d.place()
		wantRefused(t, "the common beginning's length", padded(t, d.bytes()))
		for i := range items {
			d = draftOf(items, 1)
			d.cells[i] = append(bytes.Clone(form), d.cells[i][1:]...)
			d.place()
			wantRefused(t, "a rest's length", padded(t, d.bytes()))
			d = draftOf(items, 1)
			d.cells[i] = slices.Concat(d.cells[i][:2], form, d.cells[i][3:])
			d.place()
			wantRefused(t, "a tag", padded(t, d.bytes()))
		}
	}
}

// The beginning that stands ahead of the cells must be the longest one.
func TestP4_3ShorterBeginnings(t *testing.T) {
	for _, items := range [][]api.Item{
		{inline("a", "x")},
		{inline("abc", "x")},
		{inline("ab", "x"), inline("abc", "y")},
		{inline("abc", "x"), inline("abd", "y"), inline("abe", "z")},
		{inline(xs(128)+"a", "x"), inline(xs(128)+"b", "y")},
		{chained("key", 600, 9)},
	} {
		p := len(plainPrefix(items))
		wantItems(t, padded(t, draftOf(items, p).bytes()), items)
		for n := range p {
			wantRefused(t, "a shorter beginning", padded(t, draftOf(items, n).bytes()))
		}
	}
}

func TestP4_3ItemsThatMayNotBe(t *testing.T) {
	long, longer := sized("k", 513), chained("k", 262145, 9)
	for what, items := range map[string][]api.Item{
		"a key without bytes":                      {inline("", "x")},
		"a key without bytes ahead of another":     {inline("", "x"), inline("a", "y")},
		"a key of 256 bytes":                       {inline(xs(256), "x")},
		"keys of 255 and 256 bytes":                {inline(xs(255), "x"), inline(xs(256), "y")},
		"a key of 3000 bytes":                      {inline(xs(3000), "x")},
		"keys that fall":                           {inline("b", "x"), inline("a", "y")},
		"keys that fall behind two that rise":      {inline("a", "x"), inline("c", "y"), inline("b", "z")},
		"the same key twice":                       {inline("a", "x"), inline("a", "y")},
		"the same key twice at the end":            {inline("a", ""), inline("b", "x"), inline("b", "y")},
		"a key behind one that it begins":          {inline("ab", "x"), inline("a", "y")},
		"a value of 262145 bytes":                  {longer},
		"a value of 2^40 bytes":                    {chained("k", 1<<40, 9)},
		"a chain from page 0":                      {chained("k", 600, 0)},
		"a chain from page 1":                      {chained("k", 600, 1)},
		"a chain from page MaxPages":               {chained("k", 600, 524287)},
		"a chain from page 2^31":                   {chained("k", 600, 1<<31)},
		"a chain from page 2^32 - 1":               {chained("k", 600, 1<<32-1)},
		"a wrong item ahead of one that may be":    {chained("a", 600, 1), inline("b", "y")},
		"a wrong item behind one that may be":      {inline("a", "x"), chained("b", 600, 1)},
		"a wrong item between two that may be":     {inline("a", "x"), longer, inline("l", "y")},
		"a wrong key ahead of one of rising bytes": {inline("c", "x"), inline("b", "y"), inline("d", "z")},
	} {
		wantRefused(t, what, padded(t, draftOf(items, len(plainPrefix(items))).bytes()))
	}
	wantItems(t, plainBody(t, []api.Item{chained("k", 262144, 524286)}), []api.Item{chained("k", 262144, 524286)})
	wantItems(t, plainBody(t, []api.Item{chained("k", 513, 2)}), []api.Item{chained("k", 513, 2)})
	d := draftOf([]api.Item{inline("k", "")}, 1)
	d.cells[0] = slices.Concat([]byte{0}, plainV(1026), long.Value)
	wantRefused(t, "a value of 513 bytes in its leaf", padded(t, d.bytes()))
	for _, size := range []uint64{0, 1, 9, 511, 512} {
		for _, first := range []int{0, 1, 2, 9} {
			d.cells[0] = slices.Concat([]byte{0}, plainV(2*size+1), plainNumber(first, 4))
			wantRefused(t, "a short value in a chain", padded(t, d.bytes()))
		}
	}
}

// A body whose items end just where it does is whole; one byte on, and its last item is cut off.
func TestP4_3CutOffByTheEnd(t *testing.T) {
	for _, items := range [][]api.Item{full(), fullChained()} {
		wantItems(t, plainBody(t, items), items)
		i := slices.IndexFunc(items, func(it api.Item) bool { return it.Size >= 64 && it.Size < 512 })
		items[i] = sized(string(items[i].Key), items[i].Size+1)
		wantRefused(t, "one byte too many", draftOf(items, 0).bytes()[:4092])
	}
}

func TestP4_3EachByteChanged(t *testing.T) {
	next := noise(44)
	kept := 0
	for _, items := range likely() {
		body := plainBody(t, items)
		used := plainSize(items)
		for round := range 1500 {
			b := bytes.Clone(body)
			at := next(min(used+3, len(b)))
			if round < 4*min(used, 100) {
				at = round / 4
			}
			switch next(3) {
			case 0:
				b[at] ^= 1 << next(8)
			case 1:
				b[at] += byte(1 + next(2)*254)
			default:
				b[at] = byte(next(256))
			}
			if want, ok := plainDecode(b); ok {
				kept++
				wantItems(t, b, want)
			} else {
				wantRefused(t, "a byte changed", b)
			}
		}
	}
	if kept < 1000 {
		t.Errorf("only %d of the changed bodies are bodies", kept)
	}
}

// Whatever the bytes of a small body, each of its values at each place.
func TestP4_3EachValueOfEachByte(t *testing.T) {
	for _, items := range [][]api.Item{
		{inline("a", "x")},
		{inline("ab", ""), inline("abc", "yz")},
		{inline("a", ""), chained("b", 600, 9)},
		{inline(xs(128), "v")},
	} {
		body := plainBody(t, items)
		for at := range plainSize(items) + 2 {
			b := bytes.Clone(body)
			for x := range 256 {
				b[at] = byte(x)
				if want, ok := plainDecode(b); ok {
					wantItems(t, b, want)
				} else {
					wantRefused(t, "a byte changed", b)
				}
			}
		}
	}
}

func TestP4_3AnyBytes(t *testing.T) {
	next := noise(45)
	for range 3000 {
		b := make([]byte, 4092)
		for i := range 3 + next(60) {
			b[i] = byte(next(256)) & byte(next(256))
		}
		b[0], b[2] = 1, 0
		b[1] %= 9
		if want, ok := plainDecode(b); ok {
			wantItems(t, b, want)
		} else {
			wantRefused(t, "noise", b)
		}
	}
}

// plainDecode reads a body strictly, asking at every place for what must stand there; it lays out nothing.
func plainDecode(body []byte) ([]api.Item, bool) {
	if len(body) != 4092 || body[0] != 1 {
		return nil, false
	}
	n := int(body[1]) + 256*int(body[2])
	p, at, ok := plainReadV(body, 3)
	if !ok || n == 0 || p > 255 || at+int(p)+2*n > 4092 {
		return nil, false
	}
	prefix := body[at : at+int(p)]
	slot := at + int(p)
	at = slot + 2*n
	var items []api.Item
	for ; n > 0; n-- {
		if int(body[slot])+256*int(body[slot+1]) != at {
			return nil, false
		}
		it, end, ok := plainReadCell(body, at, prefix)
		if !ok {
			return nil, false
		}
		items = append(items, it)
		slot, at = slot+2, end
	}
	unused := bytes.Count(body[at:], []byte{0}) == 4092-at
	return items, unused && plainError(items) == api.OK && len(plainPrefix(items)) == len(prefix)
}

// plainReadCell reads a cell, and tells where it ends.
func plainReadCell(body []byte, at int, prefix []byte) (api.Item, int, bool) {
	s, at, ok := plainReadV(body, at)
	if !ok || s > 255 || at+int(s) > 4092 {
		return api.Item{}, 0, false
	}
	it := api.Item{Key: slices.Concat(prefix, body[at:at+int(s)])}
	tag, at, ok := plainReadV(body, at+int(s))
	if !ok || tag > 2*262144+1 {
		return api.Item{}, 0, false
	}
	it.Size = int(tag / 2)
	if tag%2 == 0 {
		if it.Size > 512 || at+it.Size > 4092 {
			return api.Item{}, 0, false
		}
		it.Value = body[at : at+it.Size]
		return it, at + it.Size, true
	}
	if it.Size <= 512 || at+4 > 4092 {
		return api.Item{}, 0, false
	}
	it.First = int(body[at]) + 256*int(body[at+1]) + 65536*int(body[at+2]) + 16777216*int(body[at+3])
	return it, at + 4, true
}

// plainReadV reads a least form of at most four bytes; no greater number has a place in a body.
func plainReadV(body []byte, at int) (uint64, int, bool) {
	for n := 1; n <= 4 && at+n <= len(body); n++ {
		if body[at+n-1] >= 128 {
			continue
		}
		var x uint64
		for i := n - 1; i >= 0; i-- {
			x = x*128 + uint64(body[at+i]%128)
		}
		return x, at + n, bytes.Equal(plainV(x), body[at:at+n])
	}
	return 0, 0, false
}
