package leaf_test

import (
	"bytes"
	"testing"

	"coppice/api"
	"coppice/leaf"
)

// withRoom is a list whose spare room is filled, and the whole of it.
func withRoom(b []byte, room int) (list, whole []byte) {
	whole = bytes.Repeat([]byte{0x55}, len(b)+room)
	copy(whole, b)
	return whole[:len(b)], whole
}

// itemsWithRoom copies items with spare room behind the list and behind each of its lists, and tells whether all of it is as it was.
func itemsWithRoom(items []api.Item) (list []api.Item, unchanged func() bool) {
	whole := make([]api.Item, len(items)+3)
	var wholes, before [][]byte
	lay := func(b []byte) []byte {
		l, w := withRoom(b, 7)
		wholes, before = append(wholes, w), append(before, bytes.Clone(w))
		return l
	}
	for i := range whole {
		it := inline("spare", "room")
		if i < len(items) {
			it = items[i]
		}
		whole[i] = api.Item{Key: lay(it.Key), Value: lay(it.Value), Size: it.Size, First: it.First}
	}
	was := append([]api.Item(nil), whole...)
	return whole[:len(items)], func() bool {
		for i := range whole {
			if whole[i].Size != was[i].Size || whole[i].First != was[i].First || !one(whole[i].Key, was[i].Key) || !one(whole[i].Value, was[i].Value) {
				return false
			}
		}
		for i := range wholes {
			if !bytes.Equal(wholes[i], before[i]) {
				return false
			}
		}
		return true
	}
}

// one tells whether two lists are one piece of one memory.
func one(a, b []byte) bool {
	if len(a) != len(b) || cap(a) != cap(b) {
		return false
	}
	return cap(a) == 0 || &a[:1][0] == &b[:1][0]
}

// spoil writes over a list and all its spare room.
func spoil(b []byte) {
	for i := range b[:cap(b)] {
		b[:cap(b)][i] ^= 0xdd
	}
}

// spoilItems writes over all that a list of items holds, spare room too.
func spoilItems(items []api.Item) {
	for _, it := range items {
		spoil(it.Key)
		spoil(it.Value)
	}
	clear(items[:cap(items)])
}

// wrongLists are lists that have an error, each at another step.
func wrongLists() [][]api.Item {
	return [][]api.Item{
		nil,
		{inline("", "x"), inline("a", "y")},
		{chained("a", 600, 1), inline("b", "x")},
		{inline("b", "x"), inline("a", "y")},
		{sized("a", 512), sized("b", 512), sized("c", 512), sized("d", 512), sized("e", 512), sized("f", 512), sized("g", 512), sized("h", 512)},
	}
}

func TestP0_3ItemsAreNotChanged(t *testing.T) {
	for _, items := range append(likely(), wrongLists()...) {
		list, unchanged := itemsWithRoom(items)
		leaf.Size(list)
		leaf.Encode(list)
		if !unchanged() {
			t.Errorf("the items%s were changed, or their spare room", tell(items))
		}
	}
}

func TestP0_3ItemsAreNotKept(t *testing.T) {
	for _, items := range likely() {
		want := plainBody(t, items)
		list, _ := itemsWithRoom(items)
		body := mustEncode(t, list)
		spoilItems(list)
		if !bytes.Equal(body, want) {
			t.Errorf("the body of%s changes with its items", tell(items))
		}
	}
}

func TestP0_3BodiesAreNotChangedNorKept(t *testing.T) {
	for _, items := range likely() {
		for _, kind := range []byte{1, 2} {
			body := plainBody(t, items)
			body[0] = kind
			list, whole := withRoom(body, 100)
			before := bytes.Clone(whole)
			back, err := leaf.Decode(list)
			if !bytes.Equal(whole, before) {
				t.Errorf("the body of%s was changed, or its spare room", tell(items))
			}
			spoil(whole)
			if err == api.OK && !same(back, items) {
				t.Errorf("the items%s change with their body", tell(items))
			}
		}
	}
}

func TestP0_3BodiesAreNewMemory(t *testing.T) {
	for _, items := range likely() {
		list, unchanged := itemsWithRoom(items)
		want := plainBody(t, items)
		one, two := mustEncode(t, list), mustEncode(t, list)
		spoil(one)
		if !bytes.Equal(two, want) || !unchanged() || !bytes.Equal(mustEncode(t, list), want) {
			t.Errorf("what is written into a body of%s is seen elsewhere", tell(items))
		}
	}
}

func TestP0_3ItemsAreNewMemory(t *testing.T) {
	for _, items := range likely() {
		body, whole := withRoom(plainBody(t, items), 100)
		before := bytes.Clone(whole)
		one, _ := leaf.Decode(body)
		two, _ := leaf.Decode(body)
		spoilItems(one)
		three, _ := leaf.Decode(body)
		if !same(two, items) || !same(three, items) || !bytes.Equal(whole, before) {
			t.Errorf("what is written into the items%s is seen elsewhere", tell(items))
		}
	}
}

// Each key and each value is written over in turn, with its spare room: none of the others may show it.
func TestP0_3ListsOfOneAnswerShareNothing(t *testing.T) {
	for _, items := range likely() {
		body := plainBody(t, items)
		got, err := leaf.Decode(body)
		if err != api.OK {
			t.Fatalf("Decode: %d", err)
		}
		left := append([]api.Item(nil), items...)
		for i := range got {
			spoil(got[i].Key)
			got[i].Key, left[i].Key = nil, nil
			if !same(got, left) {
				t.Fatalf("what is written into a key of%s is seen elsewhere", tell(items))
			}
			spoil(got[i].Value)
			got[i].Value, left[i].Value = nil, nil
			if !same(got, left) {
				t.Fatalf("what is written into a value of%s is seen elsewhere", tell(items))
			}
		}
	}
}

// The same, the other way through the answer: what stands ahead of a list may not show it either.
func TestP0_3AppendedBytesAreSeenNowhere(t *testing.T) {
	for _, items := range likely() {
		got, err := leaf.Decode(plainBody(t, items))
		if err != api.OK {
			t.Fatalf("Decode: %d", err)
		}
		for i := len(got) - 1; i >= 0; i-- {
			_ = append(got[i].Value, "spare room"...)
			_ = append(got[i].Key, "spare room"...)
		}
		if !same(got, items) {
			t.Errorf("what is appended to the lists of%s is seen elsewhere", tell(items))
		}
	}
}

func TestP0_4TheSameAnswerAgain(t *testing.T) {
	for _, items := range append(likely(), wrongLists()...) {
		b, err := leaf.Encode(items)
		for range 3 {
			if again, e := leaf.Encode(items); e != err || !bytes.Equal(again, b) || leaf.Size(items) != plainSize(items) {
				t.Errorf("Encode(%s) answers otherwise the second time", tell(items))
			}
		}
	}
}
