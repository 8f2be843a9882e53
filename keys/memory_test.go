package keys_test

import (
	"bytes"
	"testing"

	"coppice/api"
	"coppice/keys"
)

// withRoom is a list whose spare room is filled, and the whole of it.
func withRoom(b []byte, room int) (list, whole []byte) {
	whole = bytes.Repeat([]byte{0x55}, len(b)+room)
	copy(whole, b)
	whole = whole[:len(whole):len(whole)]
	return whole[:len(b)], whole
}

// spoil writes over a list and all its spare room.
func spoil(b []byte) {
	for i := range b[:cap(b)] {
		b[:cap(b)][i] = 0xdd
	}
}

func TestP3_5NothingIsChanged(t *testing.T) {
	for _, c := range [][2]string{{"rain", "raise"}, {"raise", "rain"}, {"ab", "abc"}, {"", "x"}, {"", ""}, {"a", "a"}} {
		a, wholeA := withRoom([]byte(c[0]), 9)
		b, wholeB := withRoom([]byte(c[1]), 9)
		beforeA, beforeB := bytes.Clone(wholeA), bytes.Clone(wholeB)
		keys.Compare(a, b)
		keys.Common(a, b)
		keys.Separator(a, b)
		keys.Valid(a)
		keys.Within(a, b, b)
		keys.Within(b, a, a)
		if !bytes.Equal(wholeA, beforeA) || !bytes.Equal(wholeB, beforeB) {
			t.Errorf("%q or %q was changed, or its spare room", c[0], c[1])
		}
	}
}

func TestP3_5TheListIsNotChanged(t *testing.T) {
	var wholes, before [][]byte
	var list [][]byte
	for _, s := range texts("rain", "ran", "raise", "", "x") {
		l, whole := withRoom(s, 5)
		list, wholes, before = append(list, l), append(wholes, whole), append(before, bytes.Clone(whole))
	}
	for n := range len(list) + 1 {
		keys.CommonAll(list[:n])
		for i := range list {
			if !bytes.Equal(wholes[i], before[i]) || len(list[i]) != len(before[i])-5 || cap(list[i]) != len(before[i]) {
				t.Errorf("CommonAll of %d changed the string at %d", n, i)
			}
			if len(list[i]) > 0 && &list[i][0] != &wholes[i][0] {
				t.Errorf("CommonAll of %d laid another string at %d", n, i)
			}
		}
	}
}

func TestP3_5ASeparatorIsNewMemory(t *testing.T) {
	for _, c := range [][3]string{{"rain", "raise", "rais"}, {"ab", "abc", "abc"}, {"", "x", "x"}, {"a", "bcdef", "b"}} {
		a, wholeA := withRoom([]byte(c[0]), 9)
		b, wholeB := withRoom([]byte(c[1]), 9)
		beforeA, beforeB := bytes.Clone(wholeA), bytes.Clone(wholeB)
		x, _ := keys.Separator(a, b)
		y, _ := keys.Separator(a, b)
		spoil(y)
		if string(x) != c[2] || !bytes.Equal(wholeA, beforeA) || !bytes.Equal(wholeB, beforeB) {
			t.Errorf("a separator of %q and %q that is written over shows elsewhere", c[0], c[1])
		}
		spoil(wholeA)
		spoil(wholeB)
		if string(x) != c[2] {
			t.Errorf("the separator of %q and %q lies in the memory that was handed in", c[0], c[1])
		}
	}
}

// TestP3_5NothingIsKept: the same memory with other bytes in it is another string.
func TestP3_5NothingIsKept(t *testing.T) {
	a, b := []byte("rain"), []byte("raise")
	keys.Separator(a, b)
	keys.CommonAll([][]byte{a, b})
	keys.Compare(a, b)
	copy(a, "bark")
	copy(b, "beech")
	s, err := keys.Separator(a, b)
	if err != api.OK || string(s) != "be" || keys.CommonAll([][]byte{a, b}) != 1 || keys.Compare(b, a) != 1 {
		t.Errorf("behind other calls: %q, error %d", s, err)
	}
}
