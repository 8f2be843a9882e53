package chain_test

import (
	"bytes"
	"slices"
	"testing"

	"coppice/api"
	"coppice/chain"
)

// withRoom is a list whose spare room is filled, and the whole of it.
func withRoom(b []byte, room int) (list, whole []byte) {
	whole = bytes.Repeat([]byte{0x55}, len(b)+room)
	copy(whole, b)
	return whole[:len(b)], whole
}

// numbersWithRoom is the same with a list of numbers.
func numbersWithRoom(l []int, room int) (list, whole []int) {
	whole = slices.Repeat([]int{-55}, len(l)+room)
	copy(whole, l)
	return whole[:len(l)], whole
}

// spoil writes over a list and all its spare room.
func spoil(b []byte) {
	for i := range b[:cap(b)] {
		b[:cap(b)][i] ^= 0xdd
	}
}

// spoilNumbers writes over numbers and all their spare room.
func spoilNumbers(l []int) {
	for i := range l[:cap(l)] {
		l[:cap(l)][i] = -7
	}
}

// spoilPieces writes over a list of pieces, and over each of them, spare room too.
func spoilPieces(l [][]byte) {
	for _, piece := range l {
		spoil(piece)
	}
	for i := range l[:cap(l)] {
		l[:cap(l)][i] = []byte("spoilt")
	}
}

// valueSizes are sizes of values with and without pieces.
func valueSizes() []int {
	return []int{0, 1, 512, 513, 4084, 4085, 4086, 8170, 8171, 20000, 262144, 262145}
}

// samePieces tells whether the pieces are those of the value.
func samePieces(pieces [][]byte, value []byte) bool {
	if chain.Pages(len(value)) == 0 {
		return len(pieces) == 0
	}
	return len(pieces) == chain.Pages(len(value)) && bytes.Equal(bytes.Join(pieces, nil), value)
}

func TestP6_7AValueIsNotChangedNorKept(t *testing.T) {
	for _, size := range valueSizes() {
		value, whole := withRoom(someBytes(size), 5000)
		before := bytes.Clone(whole)
		pieces := chain.Pieces(value)
		if !bytes.Equal(whole, before) {
			t.Errorf("a value of %d bytes was changed, or its spare room", size)
		}
		spoil(whole)
		if !samePieces(pieces, before[:size]) {
			t.Errorf("the pieces of %d bytes change with their value", size)
		}
	}
}

func TestP6_7PiecesAreNewMemory(t *testing.T) {
	for _, size := range valueSizes() {
		value, whole := withRoom(someBytes(size), 5000)
		before := bytes.Clone(whole)
		one, two := chain.Pieces(value), chain.Pieces(value)
		spoilPieces(one)
		if !bytes.Equal(whole, before) || !samePieces(two, value) || !samePieces(chain.Pieces(value), value) {
			t.Errorf("what is written into the pieces of %d bytes is seen elsewhere", size)
		}
	}
}

// Each piece is written over in turn, with its spare room: none of the others may show it.
func TestP6_7PiecesShareNothing(t *testing.T) {
	for _, size := range valueSizes() {
		value := someBytes(size)
		for turn := range chain.Pages(size) {
			pieces := chain.Pieces(value)
			spoil(pieces[turn])
			pieces[turn] = value[4085*turn : min(4085*turn+4085, size)]
			if !samePieces(pieces, value) {
				t.Fatalf("what is written into piece %d of %d bytes is seen in another one", turn, size)
			}
		}
	}
}

func TestP6_7WhatIsAppendedToPiecesIsSeenNowhere(t *testing.T) {
	for _, size := range valueSizes() {
		value, whole := withRoom(someBytes(size), 5000)
		before := bytes.Clone(whole)
		pieces := chain.Pieces(value)
		for i := range pieces {
			_ = append(pieces[i], "spare room"...)
		}
		_ = append(pieces, []byte("spare room"))
		if !samePieces(pieces, value) || !bytes.Equal(whole, before) {
			t.Errorf("what is appended to the pieces of %d bytes is seen elsewhere", size)
		}
	}
}

// anyDataPages are pages of data that may be, and others.
func anyDataPages() []dataPage {
	return append(likelyData(), dataPage{0, nil}, dataPage{7, []byte("abc")}, dataPage{1, []byte("abc")}, dataPage{0, make([]byte, 4086)})
}

// anyListPages are pages of frees that may be, and others.
func anyListPages() []listPage {
	return append(likelyLists(), listPage{9, nil}, listPage{9, []int{2}}, listPage{1, []int{2, 3}}, listPage{0, []int{5, 5}},
		listPage{0, []int{6, 5}}, listPage{0, []int{1}}, listPage{0, []int{524287}}, listPage{0, someNumbers(2, 1022)})
}

func TestP6_7DataIsNotChangedNorKept(t *testing.T) {
	for _, p := range anyDataPages() {
		data, whole := withRoom(p.data, 5000)
		before := bytes.Clone(whole)
		body, err := chain.EncodeData(p.next, data)
		if !bytes.Equal(whole, before) {
			t.Errorf("the data of %v was changed, or its spare room", p)
		}
		spoil(whole)
		if err == api.OK && !bytes.Equal(body, p.body(t)) {
			t.Errorf("the body of %v changes with its data", p)
		}
	}
}

func TestP6_7AListIsNotChangedNorKept(t *testing.T) {
	for _, p := range anyListPages() {
		list, whole := numbersWithRoom(p.list, 1100)
		before := slices.Clone(whole)
		body, err := chain.EncodeList(p.next, list)
		if !slices.Equal(whole, before) {
			t.Errorf("the list of %v was changed, or its spare room", p)
		}
		spoilNumbers(whole)
		if err == api.OK && !bytes.Equal(body, p.body(t)) {
			t.Errorf("the body of %v changes with its list", p)
		}
	}
}

func TestP6_7BodiesAreNewMemory(t *testing.T) {
	for _, p := range likelyData() {
		data, whole := withRoom(p.data, 5000)
		before := bytes.Clone(whole)
		one, two := mustEncodeData(t, dataPage{p.next, data}), mustEncodeData(t, dataPage{p.next, data})
		spoil(one)
		if !bytes.Equal(whole, before) || !bytes.Equal(two, p.body(t)) || !bytes.Equal(mustEncodeData(t, p), p.body(t)) {
			t.Errorf("what is written into a body of %v is seen elsewhere", p)
		}
	}
	for _, p := range likelyLists() {
		one, two := mustEncodeList(t, p), mustEncodeList(t, p)
		spoil(one)
		if !bytes.Equal(two, p.body(t)) || !bytes.Equal(mustEncodeList(t, p), p.body(t)) {
			t.Errorf("what is written into a body of %v is seen elsewhere", p)
		}
	}
}

// bodies are those of pages of both kinds, and some that are no page's.
func bodies(t *testing.T) [][]byte {
	var l [][]byte
	for _, p := range likelyData() {
		l = append(l, p.body(t))
	}
	for _, p := range likelyLists() {
		l = append(l, p.body(t))
	}
	spare, short := fromHex(t, "03 00000000 0300 616263"), fromHex(t, "04")
	spare[4091] = 1
	return append(l, spare, short[:4091], make([]byte, 4092), nil)
}

func TestP6_7BodiesAreNotChangedNorKept(t *testing.T) {
	for i, body := range bodies(t) {
		handed, whole := withRoom(body, 5000)
		before := bytes.Clone(whole)
		dataNext, data, dataErr := chain.DecodeData(handed)
		listNext, list, listErr := chain.DecodeList(handed)
		if !bytes.Equal(whole, before) {
			t.Errorf("the body at %d was changed, or its spare room", i)
		}
		spoil(whole)
		if got := (dataPage{dataNext, data}); dataErr == api.OK && !bytes.Equal(got.body(t), body) {
			t.Errorf("the data of the body at %d changes with it", i)
		}
		if got := (listPage{listNext, list}); listErr == api.OK && !bytes.Equal(got.body(t), body) {
			t.Errorf("the list of the body at %d changes with it", i)
		}
	}
}

func TestP6_7DataIsNewMemory(t *testing.T) {
	for _, p := range likelyData() {
		body, whole := withRoom(p.body(t), 5000)
		before := bytes.Clone(whole)
		_, one, _ := chain.DecodeData(body)
		_, two, _ := chain.DecodeData(body)
		spoil(one)
		_ = append(one, "spare room"...)
		if !bytes.Equal(two, p.data) || !bytes.Equal(whole, before) {
			t.Errorf("what is written into the data of %v is seen elsewhere", p)
		}
		wantData(t, body, p)
	}
}

func TestP6_7ListsAreNewMemory(t *testing.T) {
	for _, p := range likelyLists() {
		body, whole := withRoom(p.body(t), 5000)
		before := bytes.Clone(whole)
		_, one, _ := chain.DecodeList(body)
		_, two, _ := chain.DecodeList(body)
		spoilNumbers(one)
		_ = append(one, -7)
		if !slices.Equal(two, p.list) || !bytes.Equal(whole, before) {
			t.Errorf("what is written into the list of %v is seen elsewhere", p)
		}
		wantList(t, body, p)
	}
}

func TestP0_4TheSameAnswerAgain(t *testing.T) {
	for _, p := range anyDataPages() {
		b, err := chain.EncodeData(p.next, p.data)
		for range 3 {
			if again, e := chain.EncodeData(p.next, p.data); e != err || !bytes.Equal(again, b) {
				t.Errorf("EncodeData%v answers otherwise the second time", p)
			}
		}
	}
	for _, p := range anyListPages() {
		b, err := chain.EncodeList(p.next, p.list)
		for range 3 {
			if again, e := chain.EncodeList(p.next, p.list); e != err || !bytes.Equal(again, b) {
				t.Errorf("EncodeList%v answers otherwise the second time", p)
			}
		}
	}
}
