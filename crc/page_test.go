package crc_test

import (
	"bytes"
	"testing"

	"coppice/api"
	"coppice/crc"
)

// bodies are bodies of many kinds, all of the one length.
func bodies() [][]byte {
	all := [][]byte{make([]byte, api.BodySize), bytes.Repeat([]byte{255}, api.BodySize)}
	for seed := range uint64(20) {
		all = append(all, noise(seed, api.BodySize))
	}
	for _, at := range []int{0, 1, 2046, api.BodySize - 1} {
		b := make([]byte, api.BodySize)
		b[at] = 1
		all = append(all, b)
	}
	return all
}

func wantSeal(t *testing.T, body []byte) []byte {
	t.Helper()
	page, err := crc.Seal(body)
	if err != api.OK || len(page) != api.PageSize {
		t.Fatalf("Seal of %d bytes: %d bytes, error %d", len(body), len(page), err)
	}
	return page
}

func wantRefused(t *testing.T, what string, got []byte, err, want api.Errno) {
	t.Helper()
	if err != want || len(got) != 0 {
		t.Errorf("%s: %d bytes, error %d, want none and error %d", what, len(got), err, want)
	}
}

func TestP2_3Zeros(t *testing.T) {
	page := wantSeal(t, make([]byte, api.BodySize))
	want := append(make([]byte, api.BodySize), 0x89, 0x04, 0x3B, 0x60)
	if !bytes.Equal(page, want) {
		t.Errorf("the page of zeros ends in % x", page[api.BodySize:])
	}
}

func TestP2_3ABodyAndItsSum(t *testing.T) {
	for _, body := range bodies() {
		page := wantSeal(t, body)
		s := plainUpdate(0, body)
		want := append(bytes.Clone(body), byte(s), byte(s>>8), byte(s>>16), byte(s>>24))
		if !bytes.Equal(page, want) {
			t.Errorf("the page is not its body with %08X behind it: % x", s, page[api.BodySize:])
		}
	}
}

func TestP2_3OtherLengths(t *testing.T) {
	for _, n := range []int{0, 1, 4, 4088, 4091, 4093, 4095, 4096, 8184, 70000} {
		page, err := crc.Seal(noise(1, n))
		wantRefused(t, "Seal of another length", page, err, api.ErrBody)
	}
	page, err := crc.Seal(nil)
	wantRefused(t, "Seal of nil", page, err, api.ErrBody)
	// Room for a body is no body.
	page, err = crc.Seal(make([]byte, api.BodySize-1, api.BodySize))
	wantRefused(t, "Seal of one byte too few, with room", page, err, api.ErrBody)
}

func TestP2_4OpensToItsBody(t *testing.T) {
	for _, body := range bodies() {
		s := plainUpdate(0, body)
		page := append(bytes.Clone(body), byte(s), byte(s>>8), byte(s>>16), byte(s>>24))
		got, err := crc.Open(page)
		if err != api.OK || !bytes.Equal(got, body) {
			t.Errorf("Open: %d bytes, error %d", len(got), err)
		}
	}
}

func TestP2_4OtherLengths(t *testing.T) {
	for _, n := range []int{0, 1, 4, 4091, 4092, 4093, 4095, 4097, 8192, 70000} {
		body, err := crc.Open(noise(1, n))
		wantRefused(t, "Open of another length", body, err, api.ErrLength)
	}
	body, err := crc.Open(nil)
	wantRefused(t, "Open of nil", body, err, api.ErrLength)
	page := wantSeal(t, noise(1, api.BodySize))
	body, err = crc.Open(page[:api.PageSize-1])
	wantRefused(t, "Open of a page without its last byte", body, err, api.ErrLength)
	body, err = crc.Open(append(bytes.Clone(page), 0))
	wantRefused(t, "Open of a page with a byte behind it", body, err, api.ErrLength)
	// Bytes with their own sum behind them are no page, if they are too few or too many.
	for _, n := range []int{0, 4091, 4093} {
		body, err = crc.Open(withSum(noise(2, n)))
		wantRefused(t, "Open of another length under its sum", body, err, api.ErrLength)
	}
}

func TestP2_4OtherSums(t *testing.T) {
	body, err := crc.Open(make([]byte, api.PageSize))
	wantRefused(t, "Open of zeros", body, err, api.ErrSum)
	page := wantSeal(t, noise(3, api.BodySize))
	for at := api.BodySize; at < api.PageSize; at++ {
		for x := 1; x < 256; x++ {
			other := bytes.Clone(page)
			other[at] ^= byte(x)
			body, err = crc.Open(other)
			wantRefused(t, "Open of a page with another sum", body, err, api.ErrSum)
		}
	}
	turned := bytes.Clone(page)
	copy(turned[api.BodySize:], []byte{page[4095], page[4094], page[4093], page[4092]})
	body, err = crc.Open(turned)
	wantRefused(t, "Open of a page with its sum's highest byte first", body, err, api.ErrSum)
	for i := range turned[api.BodySize:] {
		turned[api.BodySize+i] = ^page[api.BodySize+i]
	}
	body, err = crc.Open(turned)
	wantRefused(t, "Open of a page with its sum's complement", body, err, api.ErrSum)
}

func TestP2_8ThereAndBack(t *testing.T) {
	for _, body := range bodies() {
		page := wantSeal(t, body)
		back, err := crc.Open(page)
		if err != api.OK || !bytes.Equal(back, body) {
			t.Errorf("Open of what Seal answered: %d bytes, error %d", len(back), err)
		}
		if again := wantSeal(t, back); !bytes.Equal(again, page) {
			t.Error("Seal of what Open answered is another page")
		}
	}
}

// withRoom is a list whose spare room is filled, and the whole of it.
func withRoom(b []byte, room int) (list, whole []byte) {
	whole = bytes.Repeat([]byte{0x55}, len(b)+room)
	copy(whole, b)
	whole = whole[:len(whole):len(whole)]
	return whole[:len(b)], whole
}

// spoil writes over a list and all its spare room.
func spoil(b []byte) {
	for i := range b[:cap(b)] {
		b[:cap(b)][i] = 0xdd
	}
}

func TestP2_5SumsChangeNothing(t *testing.T) {
	for _, b := range lists() {
		list, whole := withRoom(b, 9)
		before := bytes.Clone(whole)
		crc.Sum(list)
		crc.Update(77, list)
		if !bytes.Equal(whole, before) {
			t.Errorf("a sum over %d bytes changed them, or their spare room", len(b))
		}
	}
}

func TestP2_5PagesAndBodiesAreNewMemory(t *testing.T) {
	body := noise(5, api.BodySize)
	page := wantSeal(t, body)
	checkNew(t, "Seal", body, page, crc.Seal)
	checkNew(t, "Open", page, body, crc.Open)
}

// checkNew: the call leaves what it is given alone, and its answers share nothing with that nor with each other.
func checkNew(t *testing.T, what string, given, want []byte, call func([]byte) ([]byte, api.Errno)) {
	t.Helper()
	for _, room := range []int{0, 1, 4, 5, 4096} {
		list, whole := withRoom(given, room)
		before := bytes.Clone(whole)
		x, _ := call(list)
		y, _ := call(list)
		if !bytes.Equal(whole, before) {
			t.Errorf("%s changed what was handed in, or its spare room", what)
		}
		spoil(y)
		if !bytes.Equal(whole, before) || !bytes.Equal(x, want) {
			t.Errorf("%s: an answer that is written over shows elsewhere", what)
		}
		spoil(whole)
		if !bytes.Equal(x, want) {
			t.Errorf("%s: the answer lies in the memory that was handed in", what)
		}
	}
}

func TestP2_5WhatIsRefusedIsNotChanged(t *testing.T) {
	for _, n := range []int{0, 4091, 4092, 4093, 4095, 4096, 4097} {
		list, whole := withRoom(noise(6, n), 10)
		before := bytes.Clone(whole)
		crc.Open(list)
		crc.Seal(list)
		if !bytes.Equal(whole, before) {
			t.Errorf("a call with %d bytes changed them, or their spare room", n)
		}
	}
}
