package branch_test

import (
	"bytes"
	"slices"
	"testing"

	"coppice/api"
	"coppice/branch"
)

// withRoom is a list whose spare room is filled, and the whole of it.
func withRoom(b []byte, room int) (list, whole []byte) {
	whole = bytes.Repeat([]byte{0x55}, len(b)+room)
	copy(whole, b)
	return whole[:len(b)], whole
}

// woodWithRoom copies a branch with spare room behind each of its lists, and tells whether all of it is as it was.
func woodWithRoom(w wood) (copied wood, unchanged func() bool) {
	seps, kids := make([][]byte, len(w.seps)+3), make([]api.Kid, len(w.kids)+3)
	var wholes [][]byte
	for i := range seps {
		s := []byte("spare room")
		if i < len(w.seps) {
			s = w.seps[i]
		}
		sep, whole := withRoom(s, 7)
		seps[i], wholes = sep, append(wholes, whole)
	}
	for i := range kids {
		kids[i] = kid(-1-i, -2-i)
	}
	copy(kids, w.kids)
	sepsWere, kidsWere := slices.Clone(seps), slices.Clone(kids)
	var wholesWere [][]byte
	for _, whole := range wholes {
		wholesWere = append(wholesWere, bytes.Clone(whole))
	}
	copied = wood{w.level, seps[:len(w.seps)], kids[:len(w.kids)]}
	return copied, func() bool {
		return slices.EqualFunc(seps, sepsWere, one) && slices.Equal(kids, kidsWere) && slices.EqualFunc(wholes, wholesWere, bytes.Equal)
	}
}

// one tells whether two lists are one piece of one memory.
func one(a, b []byte) bool {
	if len(a) != len(b) || cap(a) != cap(b) {
		return false
	}
	return cap(a) == 0 || &a[:1][0] == &b[:1][0]
}

// spoil writes over a list and all its spare room.
func spoil(b []byte) {
	for i := range b[:cap(b)] {
		b[:cap(b)][i] ^= 0xdd
	}
}

// spoilKids writes over kids and all their spare room.
func spoilKids(kids []api.Kid) {
	for i := range kids[:cap(kids)] {
		kids[:cap(kids)][i] = kid(-7, -7)
	}
}

// spoilWood writes over all that a branch holds, spare room too.
func spoilWood(w wood) {
	for _, s := range w.seps {
		spoil(s)
	}
	for i := range w.seps[:cap(w.seps)] {
		w.seps[:cap(w.seps)][i] = []byte("spoilt")
	}
	spoilKids(w.kids)
}

// wrong are branches that have an error, each at another step.
func wrong() []wood {
	noKeys, tooBig, falling := above("a", "b"), above(), above("b", "a")
	noKeys.kids[2].Keys = 0
	for i := range 20 {
		tooBig.seps = append(tooBig.seps, []byte(string(byte('a'+i))+xs(240)))
	}
	tooBig.kids = kidsFor(20)
	return []wood{{1, nil, nil}, {0, list("a"), kidsFor(1)}, {1, list("a"), kidsFor(2)}, noKeys, above("", "a"), falling, tooBig}
}

func TestP5_4ABranchIsNotChanged(t *testing.T) {
	for _, w := range append(likely(), wrong()...) {
		copied, unchanged := woodWithRoom(w)
		branch.Size(copied.seps)
		branch.Encode(copied.level, copied.seps, copied.kids)
		if !unchanged() {
			t.Errorf("the branch %v was changed, or its spare room", w)
		}
	}
}

func TestP5_4ABranchIsNotKept(t *testing.T) {
	for _, w := range likely() {
		want := plainBody(t, w)
		copied, _ := woodWithRoom(w)
		body := mustEncode(t, copied)
		spoilWood(copied)
		if !bytes.Equal(body, want) {
			t.Errorf("the body of %v changes with its branch", w)
		}
	}
}

func TestP5_4BodiesAreNotChangedNorKept(t *testing.T) {
	for _, w := range likely() {
		for _, kind := range []byte{2, 3} {
			body := plainBody(t, w)
			body[0] = kind
			handed, whole := withRoom(body, 100)
			before := bytes.Clone(whole)
			back, err := decoded(handed)
			if !bytes.Equal(whole, before) {
				t.Errorf("the body of %v was changed, or its spare room", w)
			}
			spoil(whole)
			if err == api.OK && !same(back, w) {
				t.Errorf("the branch %v changes with its body", w)
			}
		}
	}
}

func TestP5_4BodiesAreNewMemory(t *testing.T) {
	for _, w := range likely() {
		copied, unchanged := woodWithRoom(w)
		want := plainBody(t, w)
		one, two := mustEncode(t, copied), mustEncode(t, copied)
		spoil(one)
		if !bytes.Equal(two, want) || !unchanged() || !bytes.Equal(mustEncode(t, copied), want) {
			t.Errorf("what is written into a body of %v is seen elsewhere", w)
		}
	}
}

func TestP5_4BranchesAreNewMemory(t *testing.T) {
	for _, w := range likely() {
		body, whole := withRoom(plainBody(t, w), 100)
		before := bytes.Clone(whole)
		one, _ := decoded(body)
		two, _ := decoded(body)
		spoilWood(one)
		three, _ := decoded(body)
		if !same(two, w) || !same(three, w) || !bytes.Equal(whole, before) {
			t.Errorf("what is written into the branch %v is seen elsewhere", w)
		}
	}
}

// Each list is written over in turn, with its spare room: none of the others may show it.
func TestP5_4ListsOfOneAnswerShareNothing(t *testing.T) {
	for _, w := range likely() {
		got, err := decoded(plainBody(t, w))
		if err != api.OK {
			t.Fatalf("Decode: %d", err)
		}
		left := wood{w.level, slices.Clone(w.seps), w.kids}
		for i := range got.seps {
			spoil(got.seps[i])
			got.seps[i], left.seps[i] = nil, nil
			if !same(got, left) {
				t.Fatalf("what is written into a separator of %v is seen elsewhere", w)
			}
		}
		spoilKids(got.kids)
		if !slices.EqualFunc(got.seps, left.seps, bytes.Equal) {
			t.Fatalf("what is written into the kids of %v is seen elsewhere", w)
		}
	}
}

func TestP5_4WhatIsAppendedIsSeenNowhere(t *testing.T) {
	for _, w := range likely() {
		got, err := decoded(plainBody(t, w))
		if err != api.OK {
			t.Fatalf("Decode: %d", err)
		}
		for i := len(got.seps) - 1; i >= 0; i-- {
			_ = append(got.seps[i], "spare room"...)
		}
		_ = append(got.seps, []byte("spare room"))
		_ = append(got.kids, kid(-7, -7))
		if !same(got, w) {
			t.Errorf("what is appended to the lists of %v is seen elsewhere", w)
		}
	}
}

// Separators that are pieces of one memory, and one that is handed in twice, are as good as others.
func TestP5_4SeparatorsMayShareMemory(t *testing.T) {
	text := []byte(xs(20))
	var seps [][]byte
	for n := 1; n <= len(text); n++ {
		seps = append(seps, text[:n])
	}
	w := wood{1, seps, kidsFor(len(seps))}
	wantBody(t, w, plainBody(t, above(stringsOf(seps)...)))
	if string(text) != xs(20) {
		t.Errorf("the separators were changed: %q", text)
	}
	wantError(t, wood{1, [][]byte{text, text}, kidsFor(2)}, api.ErrOrder)
}

// stringsOf are the same strings in memory of their own.
func stringsOf(l [][]byte) []string {
	var out []string
	for _, b := range l {
		out = append(out, string(b))
	}
	return out
}

func TestP0_4TheSameAnswerAgain(t *testing.T) {
	for _, w := range append(likely(), wrong()...) {
		b, err := branch.Encode(w.level, w.seps, w.kids)
		for range 3 {
			if again, e := branch.Encode(w.level, w.seps, w.kids); e != err || !bytes.Equal(again, b) || branch.Size(w.seps) != plainSize(w.seps) {
				t.Errorf("Encode%v answers otherwise the second time", w)
			}
		}
	}
}
