package branch_test

import (
	"bytes"
	"math"
	"slices"
	"testing"

	"coppice/api"
	"coppice/branch"
)

// wantBranch asks that Decode answers the branch.
func wantBranch(t *testing.T, body []byte, want wood) {
	t.Helper()
	w, err := decoded(body)
	if err != api.OK || !same(w, want) {
		t.Errorf("Decode(%x): %d, %v, not %v", body[:min(len(body), 40)], err, w, want)
	}
}

// wantRefused asks that Decode answers ErrBranch, and nothing beside it.
func wantRefused(t *testing.T, what string, body []byte) {
	t.Helper()
	level, seps, kids, err := branch.Decode(body)
	if err != api.ErrBranch || level != 0 || seps != nil || kids != nil {
		t.Errorf("%s: Decode(%x): %d, %v", what, body[:min(len(body), 40)], err, wood{level, seps, kids})
	}
}

// wantAsPlain asks that Decode answers what a strict reading of the body does, and tells whether it is one of a branch.
func wantAsPlain(t *testing.T, what string, body []byte) bool {
	t.Helper()
	want, ok := plainDecode(body)
	if ok {
		wantBranch(t, body, want)
	} else {
		wantRefused(t, what, body)
	}
	return ok
}

func TestP5_3Examples(t *testing.T) {
	for _, c := range examples() {
		wantBranch(t, fromHex(t, c.body), c.w)
	}
	second := fromHex(t, examples()[1].body)
	slot, last := bytes.Clone(second), bytes.Clone(second)
	slot[6], last[4091] = 0x11, 1
	wantRefused(t, "another slot", slot)
	wantRefused(t, "another last byte", last)
	wantRefused(t, "zeros", make([]byte, 4092))
	wantRefused(t, "4091 bytes", second[:4091])
	wantRefused(t, "4091 zeros", make([]byte, 4091))
}

func TestP5_3Bodies(t *testing.T) {
	for _, w := range likely() {
		wantBranch(t, plainBody(t, w), w)
	}
}

func TestP5_3OtherLengths(t *testing.T) {
	for _, w := range []wood{above(), above("m"), crowd(76), full()} {
		body := plainBody(t, w)
		for n := range body {
			wantRefused(t, "a body cut off", body[:n])
		}
		for _, more := range []int{1, 2, 4, 4092, 100000} {
			wantRefused(t, "a body with zeros behind it", append(bytes.Clone(body), make([]byte, more)...))
		}
		wantRefused(t, "two bodies", append(bytes.Clone(body), body...))
	}
	wantRefused(t, "nil", nil)
	wantRefused(t, "no byte", []byte{})
}

func TestP5_3Kinds(t *testing.T) {
	for _, w := range []wood{above(), above("m"), above("ma", "mb")} {
		for kind := range 256 {
			d := draftOf(w, len(plainPrefix(w.seps)))
			d.kind = byte(kind)
			if kind == 2 {
				wantBranch(t, padded(t, d.bytes()), w)
			} else {
				wantRefused(t, "another kind", padded(t, d.bytes()))
			}
		}
	}
	wantRefused(t, "a branch of zeros", fromHex(t, "02"))
	wantRefused(t, "a branch of level 1 and zeros", fromHex(t, "02 01"))
	wantRefused(t, "all 255", bytes.Repeat([]byte{255}, 4092))
	wantRefused(t, "all 2", bytes.Repeat([]byte{2}, 4092))
}

func TestP5_3Levels(t *testing.T) {
	for _, w := range []wood{above(), above("m"), above("ma", "mb")} {
		for level := range 256 {
			w.level = level
			body := padded(t, draftOf(w, len(plainPrefix(w.seps))).bytes())
			if level >= 1 && level <= 15 {
				wantBranch(t, body, w)
			} else {
				wantRefused(t, "a level that may not be", body)
			}
		}
	}
}

func TestP5_3Counts(t *testing.T) {
	for _, w := range []wood{above(), above("m"), above("a", "b", "c")} {
		body := plainBody(t, w)
		for n := range 1 << 16 {
			if n == len(w.kids) {
				continue
			}
			body[2], body[3] = byte(n), byte(n>>8)
			wantRefused(t, "another count", body)
		}
	}
	wantRefused(t, "no kid", fromHex(t, "02 01 0000 00"))
	wantRefused(t, "no kid, with a prefix", fromHex(t, "02 01 0000 01 61"))
	wantRefused(t, "no kid, and one all the same", fromHex(t, "02 01 0000 00 02000000 01000000"))
}

func TestP5_3Slots(t *testing.T) {
	w := above("aa", "ab", "ac")
	right := draftOf(w, 1)
	wantBranch(t, padded(t, right.bytes()), w)
	for i := range w.seps {
		for at := range 4200 {
			if at == right.slots[i] {
				continue
			}
			d := draftOf(w, 1)
			d.slots[i] = at
			wantRefused(t, "another slot", padded(t, d.bytes()))
		}
	}
	for _, by := range []int{256, 4092, 4096, 32768, 65280} {
		d := draftOf(w, 1)
		d.slots[1] += by
		wantRefused(t, "a slot beyond the body", padded(t, d.bytes()))
	}
	d := draftOf(w, 1)
	slices.Reverse(d.slots)
	wantRefused(t, "slots the other way round", padded(t, d.bytes()))
	d = draftOf(w, 1)
	slices.Reverse(d.cells)
	d.slots = []int{right.slots[2], right.slots[1], right.slots[0]}
	wantRefused(t, "cells the other way round, with their slots", padded(t, d.bytes()))
}

// A byte between two cells, or ahead of the first one, that the slots pass over.
func TestP5_3Gaps(t *testing.T) {
	w := above("aa", "ab", "ac")
	for i := range w.seps {
		for _, gap := range []string{"\x00", "\x01", "\x00\x00\x00"} {
			d := draftOf(w, 1)
			d.cells[i] = append([]byte(gap), d.cells[i]...)
			d.place()
			d.slots[i] += len(gap)
			wantRefused(t, "a gap ahead of a cell", padded(t, d.bytes()))
		}
	}
	d := draftOf(w, 1)
	d.cells = [][]byte{d.cells[0], d.cells[1], nil}
	d.slots[2] = d.slots[1]
	wantRefused(t, "two slots of one cell", padded(t, d.bytes()))
	d = draftOf(w, 1)
	d.first = append([]byte{0}, d.first...)
	d.place()
	wantRefused(t, "a gap ahead of the first kid", padded(t, d.bytes()))
}

func TestP5_3LengthsNotInTheirLeastForm(t *testing.T) {
	wide := func(x int) []byte { return []byte{byte(x) | 128, 0} }
	wider := func(x int) []byte { return []byte{byte(x) | 128, 128, 0} }
	for _, form := range []func(int) []byte{wide, wider} {
		d := draftOf(above(), 0)
		d.length = form(0)
		wantRefused(t, "the length of no prefix", padded(t, d.bytes()))
		for _, w := range []wood{above("m"), above("aa", "ab"), above("a", "ab", "ac")} {
			d = draftOf(w, 1)
			d.length = form(1)
			d.place()
			wantRefused(t, "the prefix's length", padded(t, d.bytes()))
			for i := range w.seps {
				d = draftOf(w, 1)
				d.cells[i] = append(form(int(d.cells[i][0])), d.cells[i][1:]...)
				d.place()
				wantRefused(t, "a suffix's length", padded(t, d.bytes()))
			}
		}
	}
	for _, n := range []int{127, 128} {
		d := draftOf(above(xs(n)), n)
		d.length = []byte{byte(n) | 128, byte(n/128) | 128, 0}
		d.place()
		wantRefused(t, "a long prefix's length", padded(t, d.bytes()))
		d = draftOf(above("a", xs(n)), 0)
		d.cells[1] = slices.Concat([]byte{byte(n) | 128, byte(n/128) | 128, 0}, d.cells[1][len(plainV(uint64(n))):])
		d.place()
		wantRefused(t, "a long suffix's length", padded(t, d.bytes()))
	}
}

// Lengths that no body has room for, up to the greatest ones of 64 bits and beyond them.
func TestP5_3LengthsTooGreat(t *testing.T) {
	var forms [][]byte
	for _, x := range []uint64{256, 4000, 4092, 4096, 65536, 1 << 31, 1 << 32, 1<<32 + 1, 1 << 62, 1 << 63, 1<<63 + 1, math.MaxUint64 - 1, math.MaxUint64} {
		forms = append(forms, plainV(x))
	}
	forms = append(forms, bytes.Repeat([]byte{255}, 9), bytes.Repeat([]byte{255}, 10), append(bytes.Repeat([]byte{255}, 9), 2))
	w := above("aa", "ab")
	for _, form := range forms {
		d := draftOf(w, 1)
		d.length = form
		d.place()
		wantRefused(t, "the prefix's length", padded(t, d.bytes()))
		for i := range w.seps {
			d = draftOf(w, 1)
			d.cells[i] = append(bytes.Clone(form), d.cells[i][1:]...)
			d.place()
			wantRefused(t, "a suffix's length", padded(t, d.bytes()))
		}
		d = draftOf(above(), 0)
		d.length = form
		wantRefused(t, "the length of a prefix where no separator is", padded(t, d.bytes()))
	}
}

// The prefix that stands ahead of the slots must be all that the separators begin with.
func TestP5_3ShorterPrefixes(t *testing.T) {
	for _, w := range []wood{
		above("a"), above("abc"), above("ab", "abc"), above("abc", "abd", "abe"), above(xs(127)), above(xs(128)), above(xs(128)+"a", xs(128)+"b"),
	} {
		p := len(plainPrefix(w.seps))
		wantBranch(t, padded(t, draftOf(w, p).bytes()), w)
		for n := range p {
			wantRefused(t, "a shorter prefix", padded(t, draftOf(w, n).bytes()))
		}
	}
	for _, prefix := range []string{"\x00", "a", "ab", xs(128)} {
		d := draftOf(above(), 0)
		d.length, d.prefix = plainV(uint64(len(prefix))), []byte(prefix)
		wantRefused(t, "a prefix where no separator is", padded(t, d.bytes()))
	}
}

func TestP5_3SeparatorsThatMayNotBe(t *testing.T) {
	for what, seps := range map[string][]string{
		"one without bytes":                  {""},
		"one without bytes ahead of another": {"", "a"},
		"one of 256 bytes":                   {xs(256)},
		"some of 255 and 256 bytes":          {xs(255), xs(256)},
		"one of 256 bytes behind a short":    {"a", xs(256)},
		"one of 3000 bytes":                  {xs(3000)},
		"one of 3000 bytes behind a short":   {"x", xs(3000)},
		"they fall":                          {"b", "a"},
		"they fall behind two that rise":     {"a", "c", "b"},
		"they fall ahead of one that rises":  {"c", "b", "d"},
		"the same twice":                     {"a", "a"},
		"the same twice at the end":          {"a", "b", "b"},
		"a longer one ahead of its prefix":   {"ab", "a"},
	} {
		w := above(seps...)
		wantRefused(t, what, padded(t, draftOf(w, len(plainPrefix(w.seps))).bytes()))
	}
}

func TestP5_3Kids(t *testing.T) {
	for _, k := range []api.Kid{
		kid(0, 1), kid(1, 1), kid(524287, 1), kid(524288, 1), kid(1<<31, 1), kid(1<<32-1, 1), kid(2, 0), kid(524286, 0), kid(0, 0), kid(1<<32-1, 1<<32-1),
	} {
		for _, w := range among(k) {
			wantRefused(t, "a kid that may not be", padded(t, draftOf(w, 0).bytes()))
		}
	}
	for _, k := range []api.Kid{kid(2, 1), kid(3, 2), kid(524286, 4294967295), kid(524285, 4294967294), kid(256, 1<<31), kid(65536, 1<<24)} {
		for _, w := range among(k) {
			wantBranch(t, plainBody(t, w), w)
		}
	}
}

func TestP5_3WhatIsNotUsedIsZero(t *testing.T) {
	for _, w := range []wood{above(), above("m"), above("ma", "mb"), crowd(76), crowd(3)} {
		body := plainBody(t, w)
		for at := plainSize(w.seps); at < len(body); at++ {
			for _, x := range []byte{1, 2, 128, 255} {
				body[at] = x
				wantRefused(t, "a byte behind the cells", body)
			}
			body[at] = 0
		}
	}
}

// A branch whose cells end just where the body does is whole; one byte on, and its last kid is cut off.
func TestP5_3CutOffByTheEnd(t *testing.T) {
	for _, w := range []wood{full(), fullPrefix()} {
		wantBranch(t, plainBody(t, w), w)
		i := slices.IndexFunc(w.seps, func(s []byte) bool { return len(s) < 255 })
		w.seps[i] = append(w.seps[i], 'x')
		used := draftOf(w, len(plainPrefix(w.seps))).bytes()
		wantRefused(t, "one byte too many, cut off", used[:4092])
		wantRefused(t, "one byte too many", used)
	}
}

// A prefix that no separator may have, with no cell behind it, or with as many as the body has room for.
func TestP5_3LongPrefixes(t *testing.T) {
	for _, p := range []int{256, 1000, 2000, 3000, 4000} {
		d := draft{kind: 2, level: 1, count: 65535, length: plainV(uint64(p)), prefix: []byte(xs(p))}
		wantRefused(t, "a count that is too great", padded(t, d.bytes()))
		n := (4092 - 4 - 2 - p - 8) / 11
		d.first = plainKid(kid(2, 1))
		for range n {
			d.cells = append(d.cells, append([]byte{0}, plainKid(kid(3, 1))...))
		}
		d.count = n + 1
		d.place()
		wantRefused(t, "a prefix that is too long", padded(t, d.bytes()))
	}
}

func TestP5_3EachByteChanged(t *testing.T) {
	next := noise(54)
	kept := 0
	for _, w := range likely() {
		body, used := plainBody(t, w), plainSize(w.seps)
		for round := range 1500 {
			b := bytes.Clone(body)
			at := next(min(used+3, len(b)))
			if round < 4*min(used, 100) {
				at = round / 4
			}
			switch next(3) {
			case 0:
				b[at] ^= 1 << next(8)
			case 1:
				b[at] += byte(1 + next(2)*254)
			default:
				b[at] = byte(next(256))
			}
			if wantAsPlain(t, "a byte changed", b) {
				kept++
			}
		}
	}
	if kept < 1000 {
		t.Errorf("only %d of the changed bodies are bodies", kept)
	}
}

// Each value at each place of a small body, and two places at once.
func TestP5_3EachValueOfEachByte(t *testing.T) {
	next := noise(55)
	for _, w := range []wood{above(), above("m"), above("ma", "mb"), above("a", "b"), above("m", "ma"), above(xs(128))} {
		body := plainBody(t, w)
		for at := range plainSize(w.seps) + 2 {
			b := bytes.Clone(body)
			for x := range 256 {
				b[at] = byte(x)
				wantAsPlain(t, "a byte changed", b)
			}
			for range 64 {
				b[at], b[next(plainSize(w.seps))] = byte(next(256)), byte(next(8))
				wantAsPlain(t, "bytes changed", b)
			}
		}
	}
}

func TestP5_3AnyBytes(t *testing.T) {
	next := noise(56)
	for range 3000 {
		b := make([]byte, 4092)
		for i := range 4 + next(60) {
			b[i] = byte(next(256)) & byte(next(256))
		}
		b[0], b[1], b[3] = 2, b[1]%17, 0
		b[2] %= 5
		wantAsPlain(t, "noise", b)
	}
}

// plainDecode reads a body strictly, asking at every place for what must stand there; it lays out nothing.
func plainDecode(body []byte) (wood, bool) {
	if len(body) != 4092 || body[0] != 2 {
		return wood{}, false
	}
	n := int(body[2]) + 256*int(body[3])
	p, at, ok := plainReadV(body, 4)
	if !ok || n == 0 || p > 255 || at+p+2*(n-1)+8 > 4092 {
		return wood{}, false
	}
	prefix := body[at : at+p]
	slot := at + p
	at = slot + 2*(n-1)
	w := wood{level: int(body[1]), kids: []api.Kid{plainReadKid(body[at:])}}
	at += 8
	for range n - 1 {
		s, end, ok := plainReadV(body, at)
		if !ok || s > 255 || end+s+8 > 4092 || int(body[slot])+256*int(body[slot+1]) != at {
			return wood{}, false
		}
		w.seps = append(w.seps, slices.Concat(prefix, body[end:end+s]))
		w.kids = append(w.kids, plainReadKid(body[end+s:]))
		slot, at = slot+2, end+s+8
	}
	unused := bytes.Count(body[at:], []byte{0}) == 4092-at
	return w, unused && plainError(w) == api.OK && len(plainPrefix(w.seps)) == p
}

// plainReadKid reads a kid.
func plainReadKid(b []byte) api.Kid {
	return kid(
		int(b[0])+256*int(b[1])+65536*int(b[2])+16777216*int(b[3]),
		int(b[4])+256*int(b[5])+65536*int(b[6])+16777216*int(b[7]))
}

// plainReadV reads a least form of at most two bytes; no greater length has a place in a body.
func plainReadV(body []byte, at int) (int, int, bool) {
	switch {
	case at+1 <= 4092 && body[at] < 128:
		return int(body[at]), at + 1, true
	case at+2 <= 4092 && body[at+1] < 128 && body[at+1] > 0:
		return int(body[at]) - 128 + 128*int(body[at+1]), at + 2, true
	}
	return 0, 0, false
}
