package wire_test

import (
	"bytes"
	"testing"

	"coppice/wire"
)

// withRoom is a list whose spare room is filled, and the whole of it.
func withRoom(b []byte, room int) (list, whole []byte) {
	whole = bytes.Repeat([]byte{0x55}, len(b)+room)
	copy(whole, b)
	whole = whole[:len(whole):len(whole)]
	return whole[:len(b)], whole
}

// spoil writes over a list and all its spare room.
func spoil(b []byte) {
	for i := range b[:cap(b)] {
		b[:cap(b)][i] = 0xdd
	}
}

// checkLay: what a call that lays a number behind b does to b, and what its answer has to do with b.
func checkLay(t *testing.T, what string, lay func(b []byte) []byte) {
	t.Helper()
	for _, begin := range [][]byte{nil, {}, {1}, {1, 2, 3}, bytes.Repeat([]byte{4}, 40)} {
		for _, room := range []int{0, 1, 2, 20} {
			b, whole := withRoom(begin, room)
			before := bytes.Clone(whole)
			x := lay(b)
			y := lay(b)
			want := bytes.Clone(x)
			if !bytes.Equal(whole, before) {
				t.Errorf("%s changed what was handed in, or its spare room", what)
			}
			spoil(y)
			if !bytes.Equal(whole, before) || !bytes.Equal(x, want) {
				t.Errorf("%s: an answer that is written over shows elsewhere", what)
			}
			spoil(whole)
			if !bytes.Equal(x, want) {
				t.Errorf("%s: the answer lies in the memory that was handed in", what)
			}
		}
	}
}

func TestP1_1AnswersAreNewMemory(t *testing.T) {
	checkLay(t, "Put uint8", func(b []byte) []byte { return wire.Put(b, uint8(7)) })
	checkLay(t, "Put uint16", func(b []byte) []byte { return wire.Put(b, uint16(7)) })
	checkLay(t, "Put uint32", func(b []byte) []byte { return wire.Put(b, uint32(7)) })
	checkLay(t, "Put uint64", func(b []byte) []byte { return wire.Put(b, uint64(7)) })
	for _, x := range []uint64{0, 127, 128, 1 << 40, 1<<64 - 1} {
		checkLay(t, "PutV", func(b []byte) []byte { return wire.PutV(b, x) })
	}
}

func TestP1_7ReaderKeepsNothingHandedIn(t *testing.T) {
	for _, room := range []int{0, 1, 30} {
		b, whole := withRoom([]byte{1, 2, 1, 0xb1, 9, 5, 6}, room)
		before := bytes.Clone(whole)
		r := wire.NewReader(b)
		again := wire.NewReader(b)
		spoil(again.Bytes(len(b)))
		if !bytes.Equal(whole, before) {
			t.Error("what Bytes answered lies in the memory that was handed in")
		}
		spoil(whole)
		wantNumber(t, "uint8", wire.Get[uint8](r), 1)
		wantNumber(t, "uint16", wire.Get[uint16](r), 258)
		wantNumber(t, "V", r.V(), 1201)
		wantBytes(t, "Bytes", r.Bytes(2), 5, 6)
		if n := r.Left(); n != 0 {
			t.Errorf("Left = %d behind the last byte", n)
		}
	}
}

func TestP1_7ReadingChangesNothingHandedIn(t *testing.T) {
	b, whole := withRoom([]byte{1, 2, 3, 4, 5}, 9)
	before := bytes.Clone(whole)
	r := wire.NewReader(b)
	r.V()
	wire.Get[uint16](r)
	_ = append(r.Bytes(1), 77)
	r.Bytes(9)
	r.V()
	if !bytes.Equal(whole, before) {
		t.Errorf("reading changed what was handed in: % x", whole)
	}
}

func TestP1_7BytesAnswersNewMemory(t *testing.T) {
	r := wire.NewReader([]byte{1, 2, 3, 4, 5, 6, 7, 8, 9})
	none := r.Bytes(0)
	a := r.Bytes(2)
	b := r.Bytes(3)
	empty := r.Bytes(0)

	_ = append(none, 0xaa, 0xaa, 0xaa)
	wantBytes(t, "behind an append to no bytes", a, 1, 2)
	_ = append(a, 0xaa, 0xaa, 0xaa, 0xaa)
	wantBytes(t, "behind an append to its neighbour", b, 3, 4, 5)
	spoil(none)
	spoil(a)
	wantBytes(t, "behind its neighbour was written over", b, 3, 4, 5)
	kept := r.Bytes(1)
	_ = append(empty, 0xaa, 0xaa)
	wantBytes(t, "behind an append to no bytes ahead of it", kept, 6)
	spoil(b)
	_ = append(b, 0xaa, 0xaa)
	spoil(empty)
	wantBytes(t, "behind all ahead of it was written over", kept, 6)
	spoil(kept)
	_ = append(kept, 0xaa)
	wantNumber(t, "what is left", wire.Get[uint8](r), 7)
	wantNumber(t, "what is left", r.V(), 8)
	wantBytes(t, "what is left", r.Bytes(1), 9)
}

// TestP1_7SpareRoomOfTheLast: a reader's own spare room, too, is no one's.
func TestP1_7SpareRoomOfTheLast(t *testing.T) {
	r := wire.NewReader([]byte{1, 2, 3})
	a, b, c := r.Bytes(3), r.Bytes(0), r.Bytes(0)
	x := append(b, 10)
	y := append(c, 20)
	z := append(a, 30)
	wantBytes(t, "the first", x, 10)
	wantBytes(t, "the second", y, 20)
	wantBytes(t, "the third", z, 1, 2, 3, 30)
}
