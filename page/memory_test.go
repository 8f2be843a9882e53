package page_test

import (
	"bytes"
	"slices"
	"testing"

	"coppice/api"
	"coppice/page"
)

// withRoom is a copy of a list with spare room behind it, filled.
func withRoom[T any](l []T, fill T) []T {
	whole := make([]T, len(l)+3)
	for i := range whole {
		whole[i] = fill
	}
	copy(whole, l)
	return whole[:len(l)]
}

// whole is a list with its spare room.
func whole[T any](l []T) []T { return l[:cap(l)] }

// roomy is a copy of a page with spare room behind each list, and behind each list in it.
func roomy(p api.Page) api.Page {
	p.Items = withRoom(p.Items, inline("spare", "room"))
	for i, it := range whole(p.Items) {
		it.Key, it.Value = withRoom(it.Key, 0x55), withRoom(it.Value, 0x55)
		whole(p.Items)[i] = it
	}
	p.Seps = withRoom(p.Seps, []byte("spare"))
	for i, s := range whole(p.Seps) {
		whole(p.Seps)[i] = withRoom(s, 0x55)
	}
	p.Kids = withRoom(p.Kids, kid(5, 5))
	p.Data = withRoom(p.Data, 0x55)
	p.List = withRoom(p.List, 55)
	return p
}

// picture is a copy of a page in which the spare room of each list, and of each list in it, belongs to the list.
func picture(p api.Page) api.Page {
	p.Items = slices.Clone(whole(p.Items))
	for i, it := range p.Items {
		p.Items[i].Key, p.Items[i].Value = bytes.Clone(whole(it.Key)), bytes.Clone(whole(it.Value))
	}
	p.Seps = slices.Clone(whole(p.Seps))
	for i, s := range p.Seps {
		p.Seps[i] = bytes.Clone(whole(s))
	}
	p.Kids, p.Data, p.List = slices.Clone(whole(p.Kids)), bytes.Clone(whole(p.Data)), slices.Clone(whole(p.List))
	return p
}

// spoil writes over bytes and all their spare room.
func spoil(b []byte) {
	for i := range whole(b) {
		whole(b)[i] ^= 0xdd
	}
}

// spoilPage writes over each list of a page, and over each list in it, spare room too.
func spoilPage(p api.Page) {
	for i, it := range whole(p.Items) {
		spoil(it.Key)
		spoil(it.Value)
		whole(p.Items)[i] = api.Item{Key: []byte("spoilt"), Size: -1, First: -1}
	}
	for i, s := range whole(p.Seps) {
		spoil(s)
		whole(p.Seps)[i] = []byte("spoilt")
	}
	for i := range whole(p.Kids) {
		whole(p.Kids)[i] = kid(-1, -1)
	}
	spoil(p.Data)
	for i := range whole(p.List) {
		whole(p.List)[i] = -1
	}
}

// anyValues are pages that Encode takes, and pages that it refuses in every way.
func anyValues() []api.Page {
	l := append(likely(), api.Page{})
	for _, x := range wrong() {
		l = append(l, x.p)
	}
	for _, v := range spareValues() {
		p := leafOf(inline("k", "vv"))
		v.put(&p)
		l = append(l, p)
	}
	return l
}

// anyPages are pages that Decode takes, and bytes that it refuses in every way.
func anyPages(t *testing.T) [][]byte {
	var l [][]byte
	for _, p := range likely() {
		l = append(l, pageOf(t, p))
	}
	for _, x := range faults() {
		body := pageOf(t, x.p)[:4092]
		body[x.at] = x.to
		l = append(l, sealed(body))
	}
	return append(l, nil, l[0][:4095], append(bytes.Clone(l[0]), 0), make([]byte, 4096), sealed(first(0)), sealed(first(6)))
}

func TestP8_3ValuesAreNotChanged(t *testing.T) {
	for _, p := range anyValues() {
		handed := roomy(p)
		before := picture(handed)
		page.Encode(handed)
		if !same(picture(handed), before) {
			t.Errorf("%s was changed, or its spare room", tell(p))
		}
	}
}

func TestP8_3ValuesAreNotKept(t *testing.T) {
	for _, p := range likely() {
		want := pageOf(t, p)
		handed := roomy(p)
		b := mustEncode(t, handed)
		spoilPage(handed)
		if !bytes.Equal(b, want) {
			t.Errorf("the page of %s changes with its value", tell(p))
		}
		wantPage(t, p, want)
	}
}

func TestP8_3PagesAreNotChangedNorKept(t *testing.T) {
	for i, b := range anyPages(t) {
		want, fault := plainDecode(b)
		handed := withRoom(b, 0x55)
		before := bytes.Clone(whole(handed))
		p, err := page.Decode(handed)
		if !bytes.Equal(whole(handed), before) {
			t.Errorf("the page at %d was changed, or its spare room", i)
		}
		spoil(handed)
		if err != fault || !same(p, want) {
			t.Errorf("the value of the page at %d changes with it: %s, %d", i, tell(p), err)
		}
		wantLike(t, "a page again", b)
	}
}

func TestP8_3PagesAreNewMemory(t *testing.T) {
	for _, p := range likely() {
		want := pageOf(t, p)
		handed := roomy(p)
		before := picture(handed)
		one, two := mustEncode(t, handed), mustEncode(t, handed)
		spoil(one)
		_ = append(one, "spare room"...)
		if !bytes.Equal(two, want) || !same(picture(handed), before) {
			t.Errorf("what is written into a page of %s is seen elsewhere", tell(p))
		}
		wantPage(t, p, want)
	}
}

func TestP8_3ValuesAreNewMemory(t *testing.T) {
	for _, p := range likely() {
		b := withRoom(pageOf(t, p), 0x55)
		before := bytes.Clone(whole(b))
		one, two := mustDecode(t, b), mustDecode(t, b)
		spoilPage(one)
		if !same(two, p) || !bytes.Equal(whole(b), before) {
			t.Errorf("what is written into %s is seen elsewhere", tell(p))
		}
		wantValue(t, b, p)
	}
}

// byteLists are all lists of bytes in a page.
func byteLists(p *api.Page) []*[]byte {
	l := []*[]byte{&p.Data}
	for i := range p.Items {
		l = append(l, &p.Items[i].Key, &p.Items[i].Value)
	}
	for i := range p.Seps {
		l = append(l, &p.Seps[i])
	}
	return l
}

// Each list of bytes is written over in turn, with its spare room: none of the others may show it.
func TestP8_3ListsOfOneAnswerShareNothing(t *testing.T) {
	for _, p := range likely() {
		b := pageOf(t, p)
		got, left := mustDecode(t, b), mustDecode(t, b)
		spoiling, leaving := byteLists(&got), byteLists(&left)
		for i := range spoiling {
			spoil(*spoiling[i])
			*spoiling[i], *leaving[i] = nil, nil
			if !same(got, left) {
				t.Fatalf("what is written into list %d of %s is seen in another one", i, tell(p))
			}
		}
	}
}

// What is appended to a list, or written behind it, is seen in no list, from the last one to the first.
func TestP8_3SpareRoomOfValues(t *testing.T) {
	for _, p := range likely() {
		b := pageOf(t, p)
		got, other := mustDecode(t, b), mustDecode(t, b)
		l := byteLists(&got)
		for i := len(l) - 1; i >= 0; i-- {
			spoil((*l[i])[len(*l[i]):])
			_ = append(*l[i], "spare room"...)
		}
		_ = append(got.Items, inline("spare", "room"))
		_ = append(got.Seps, []byte("spare room"))
		_ = append(got.Kids, kid(5, 5))
		_ = append(got.List, 55)
		if !same(got, p) || !same(other, p) {
			t.Errorf("what is appended to the lists of %s is seen elsewhere", tell(p))
		}
	}
}

// A page that was handed out is written over, with its spare room, ahead of the next one: none shows it.
func TestP8_3SpareRoomOfPages(t *testing.T) {
	var all [][]byte
	for _, p := range likely() {
		b := mustEncode(t, p)
		spoil(b[len(b):])
		all = append(all, b)
	}
	for i, p := range likely() {
		if !bytes.Equal(all[i], pageOf(t, p)) {
			t.Errorf("the page of %s shows another one's spare room", tell(p))
		}
	}
}

func TestP0_4TheSameAnswerAgain(t *testing.T) {
	for _, p := range anyValues() {
		b, err := page.Encode(p)
		for range 2 {
			if again, e := page.Encode(p); e != err || !bytes.Equal(again, b) {
				t.Errorf("Encode(%s) answers otherwise the second time", tell(p))
			}
		}
	}
	for i, b := range anyPages(t) {
		p, err := page.Decode(b)
		for range 2 {
			if again, e := page.Decode(b); e != err || !same(again, p) {
				t.Errorf("Decode of the page at %d answers otherwise the second time", i)
			}
		}
	}
}
