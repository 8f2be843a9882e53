package meta_test

import (
	"bytes"
	"testing"

	"coppice/api"
	"coppice/meta"
)

// withRoom is a list whose spare room is filled, and the whole of it.
func withRoom(b []byte, room int) (list, whole []byte) {
	whole = bytes.Repeat([]byte{0x55}, len(b)+room)
	copy(whole, b)
	return whole[:len(b)], whole
}

// spoil writes over a list and all its spare room.
func spoil(b []byte) {
	for i := range b[:cap(b)] {
		b[:cap(b)][i] ^= 0xdd
	}
}

// bodies are those of heads, and some that are no head's.
func bodies(t *testing.T) [][]byte {
	l := otherBodies(t)
	for _, h := range likely() {
		l = append(l, plainBody(h))
	}
	spare, mark := plainBody(likely()[1]), plainBody(likely()[1])
	spare[4087]++
	mark[4091]++
	return append(l, spare, mark, plainBody(api.Head{}), plainBody(likely()[1])[:4091], append(plainBody(likely()[1]), 0), make([]byte, 4092), nil)
}

func TestP0_3BodiesAreNotChangedNorKept(t *testing.T) {
	for i, body := range bodies(t) {
		for _, room := range []int{0, 1, 4, 5000} {
			handed, whole := withRoom(body, room)
			before := bytes.Clone(whole)
			h, err := meta.Decode(handed)
			if !bytes.Equal(whole, before) {
				t.Errorf("the body at %d was changed, or its spare room", i)
			}
			spoil(whole)
			if want, _ := plainDecode(body); h != want {
				t.Errorf("the head of the body at %d, %d, changes with it: %v", i, err, h)
			}
			if again, e := meta.Decode(body); again != h || e != err {
				t.Errorf("the body at %d reads otherwise behind one that was written over", i)
			}
		}
	}
}

func TestP0_3BodiesAreNewMemory(t *testing.T) {
	for _, h := range likely() {
		one, two := mustEncode(t, h), mustEncode(t, h)
		spoil(one)
		_ = append(one, "spare room"...)
		if !bytes.Equal(two, plainBody(h)) {
			t.Errorf("what is written into a body of %v is seen in another one", h)
		}
		wantBody(t, h, plainBody(h))
		wantHead(t, plainBody(h), h)
	}
}

// What is written behind a body, into its spare room, is seen in no body that was handed out ahead of it or behind it.
func TestP0_3SpareRoomIsNewMemory(t *testing.T) {
	var all [][]byte
	for _, h := range likely() {
		body := mustEncode(t, h)
		room := body[len(body):cap(body)]
		for i := range room {
			room[i] = 0xdd
		}
		all = append(all, body)
	}
	for i, h := range likely() {
		if !bytes.Equal(all[i], plainBody(h)) {
			t.Errorf("the body of %v shows another one's spare room", h)
		}
	}
}

func TestP0_4TheSameAnswerAgain(t *testing.T) {
	heads := append(likely(), api.Head{}, head(1, 2, 2, 1, 1, 0, 0), head(1, 3, 2, 0, 1, 0, 0))
	for _, h := range heads {
		body, err := meta.Encode(h)
		for range 3 {
			if again, e := meta.Encode(h); e != err || !bytes.Equal(again, body) {
				t.Errorf("Encode(%v) answers otherwise the second time", h)
			}
		}
	}
	for _, body := range bodies(t) {
		h, err := meta.Decode(body)
		for range 3 {
			if again, e := meta.Decode(body); e != err || again != h {
				t.Errorf("Decode(%x) answers otherwise the second time", body[:min(len(body), 40)])
			}
		}
	}
}
