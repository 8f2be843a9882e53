package page_test

import (
	"bytes"
	"math"
	"slices"
	"testing"

	"coppice/api"
	"coppice/crc"
	"coppice/page"
)

// wantPage asks for just these bytes.
func wantPage(t *testing.T, p api.Page, want []byte) {
	t.Helper()
	if b, err := page.Encode(p); err != api.OK || !bytes.Equal(b, want) {
		t.Errorf("Encode(%s): %x.., %d, not %x..", tell(p), b[:min(len(b), 40)], err, want[:40])
	}
}

// wantRefused asks for an error, and no byte beside it.
func wantRefused(t *testing.T, p api.Page, want api.Errno) {
	t.Helper()
	if b, err := page.Encode(p); err != want || len(b) != 0 {
		t.Errorf("Encode(%s): %d bytes, %d, not %d", tell(p), len(b), err, want)
	}
}

// example is one of the chapter's pages with its value.
type example struct {
	p          api.Page
	begin, sum string
}

func examples() []example {
	return []example{
		{leafOf(inline("k", "vv")), "01 0100 01 6B 0700 00 04 7676", "AD6E78F5"},
		{branchOf(1, nil, kid(2, 1)), "02 01 0100 00 02000000 01000000", "547A861D"},
		{chainOf(0, []byte("abc")), "03 00000000 0300 616263", "ADCC3CE7"},
		{freesOf(0), "04", "F1A0C92F"},
	}
}

func TestP8_1Examples(t *testing.T) {
	for _, x := range examples() {
		wantPage(t, x.p, fromHex(t, x.begin, x.sum))
	}
	wantRefused(t, api.Page{Kind: 0}, api.ErrPageKind)
	wantRefused(t, api.Page{Kind: 6}, api.ErrPageKind)
	wantRefused(t, api.Page{Kind: 1, Items: []api.Item{inline("k", "")}, Next: 7}, api.ErrSpare)
	wantRefused(t, api.Page{Kind: 1, Next: 7}, api.ErrSpare)
	wantRefused(t, api.Page{Kind: 1}, api.ErrLeaf)
}

// The bodies of the head's page and of greater pages are written out here, so that not only packages below tell what they are.
func TestP8_1PagesByHand(t *testing.T) {
	head := slices.Concat(
		[]byte{5, 'c', 'o', 'p', 2, 1, 0, 0, 0, 0, 0, 0, 0x2c, 1, 0, 0, 7, 0, 0, 0, 2, 0xe8, 3, 0, 0, 0, 0, 0, 0, 0x2b, 1, 0, 0, 3, 0, 0, 0},
		make([]byte, 4051), []byte("end."))
	wantPage(t, metaOf(258, 300, 7, 2, 1000, 299, 3), sealed(head))
	wantPage(t, branchOf(1, []string{"m"}, kid(2, 1), kid(3, 5)), sealed(padded([]byte{2, 1, 2, 0, 1, 'm', 16, 0, 2, 0, 0, 0, 1, 0, 0, 0, 0, 3, 0, 0, 0, 5, 0, 0, 0})))
	wantPage(t, chainOf(7, someBytes(4085)), sealed(append([]byte{3, 7, 0, 0, 0, 0xf5, 0x0f}, someBytes(4085)...)))
	wantPage(t, freesOf(0, 2, 5, 300), sealed(padded([]byte{4, 0, 0, 0, 0, 3, 0, 2, 0, 0, 0, 5, 0, 0, 0, 0x2c, 1, 0, 0})))
	wantPage(t, leafOf(chained("k", 600, 9)), sealed(padded([]byte{1, 1, 0, 1, 'k', 7, 0, 0, 0xb1, 9, 9, 0, 0, 0})))
}

func TestP8_1PagesOfAllKinds(t *testing.T) {
	all := likely()
	next := noise(81)
	for range 500 {
		all = append(all, anyPage(next))
	}
	for _, p := range all {
		want, err := plainEncode(p)
		if err != api.OK {
			t.Fatalf("%s has no page: %d", tell(p), err)
		}
		wantPage(t, p, want)
		if body, err := crc.Open(want); err != api.OK || int(body[0]) != p.Kind {
			t.Errorf("the page of %s does not open, or is of another kind", tell(p))
		}
	}
}

func TestP8_1TheErrorsOfEachKind(t *testing.T) {
	for _, x := range wrong() {
		wantRefused(t, x.p, x.want)
	}
}

// spareValue puts one field, or one number of the head, to a value that is not zero.
type spareValue struct {
	name string
	put  func(p *api.Page)
}

// spareNumbers are numbers that are not zero, though some have no bit in their lowest byte, or four.
func spareNumbers() []int {
	return []int{math.MinInt, -1 << 32, -256, -1, 1, 2, 7, 256, 1 << 16, 1 << 31, 1 << 32, math.MaxInt}
}

// spareValues are values of every field: each number and each number of the head alone; lists of what is zero itself, of as many as have a 0 in their count's lowest byte, and of what may be.
func spareValues() []spareValue {
	var l []spareValue
	add := func(name string, put func(p *api.Page)) { l = append(l, spareValue{name, put}) }
	for _, x := range spareNumbers() {
		add("Level", func(p *api.Page) { p.Level = x })
		add("Next", func(p *api.Page) { p.Next = x })
		add("Head", func(p *api.Page) { p.Head = api.Head{Version: x} })
		add("Head", func(p *api.Page) { p.Head = api.Head{Count: x} })
		add("Head", func(p *api.Page) { p.Head = api.Head{Root: x} })
		add("Head", func(p *api.Page) { p.Head = api.Head{Height: x} })
		add("Head", func(p *api.Page) { p.Head = api.Head{Keys: x} })
		add("Head", func(p *api.Page) { p.Head = api.Head{First: x} })
		add("Head", func(p *api.Page) { p.Head = api.Head{Free: x} })
	}
	for _, n := range []int{1, 2, 256, 65536} {
		add("Items", func(p *api.Page) { p.Items = make([]api.Item, n) })
		add("Seps", func(p *api.Page) { p.Seps = make([][]byte, n) })
		add("Kids", func(p *api.Page) { p.Kids = make([]api.Kid, n) })
		add("Data", func(p *api.Page) { p.Data = make([]byte, n) })
		add("List", func(p *api.Page) { p.List = make([]int, n) })
	}
	add("Items", func(p *api.Page) { p.Items = []api.Item{inline("k", "v")} })
	add("Seps", func(p *api.Page) { p.Seps = [][]byte{[]byte("m")} })
	add("Kids", func(p *api.Page) { p.Kids = []api.Kid{kid(2, 1)} })
	add("Data", func(p *api.Page) { p.Data = []byte("abc") })
	add("List", func(p *api.Page) { p.List = []int{2, 5, 300} })
	add("Head", func(p *api.Page) { p.Head = metaOf(258, 300, 7, 2, 1000, 299, 3).Head })
	return l
}

// Each spare field of each kind, alone: beside what the kind takes, beside what its own Encode refuses, and beside nothing.
func TestP8_1EachSpareFieldAlone(t *testing.T) {
	var all []api.Page
	for kind := 1; kind <= 5; kind++ {
		all = append(all, api.Page{Kind: kind})
	}
	for _, x := range wrong() {
		all = append(all, x.p)
	}
	seen := map[int]map[string]bool{}
	for _, p := range append(all, likely()...) {
		for _, v := range spareValues() {
			if slices.Contains(has(p.Kind), v.name) {
				continue
			}
			q := p
			v.put(&q)
			wantRefused(t, q, api.ErrSpare)
			if seen[p.Kind] == nil {
				seen[p.Kind] = map[string]bool{}
			}
			seen[p.Kind][v.name] = true
		}
	}
	for kind, fields := range seen {
		if len(fields)+len(has(kind)) != len(names()) {
			t.Errorf("kind %d: only %v were put", kind, fields)
		}
	}
}

// Two fields at once, some of which would be 0 if they were added up, or laid over one another.
func TestP8_1TwoSpareFields(t *testing.T) {
	values := spareValues()
	for _, p := range likely() {
		for i, v := range values {
			for _, w := range values[i%7:][:5] {
				if slices.Contains(has(p.Kind), v.name) || slices.Contains(has(p.Kind), w.name) {
					continue
				}
				q := p
				v.put(&q)
				w.put(&q)
				wantRefused(t, q, api.ErrSpare)
			}
		}
	}
	wantRefused(t, api.Page{Kind: 1, Items: []api.Item{inline("k", "")}, Level: 1, Next: -1}, api.ErrSpare)
	wantRefused(t, api.Page{Kind: 4, Level: -1, Head: api.Head{Free: 1}}, api.ErrSpare)
	wantRefused(t, api.Page{Kind: 3, Data: []byte("abc"), Head: api.Head{Root: 7, First: -7}}, api.ErrSpare)
}

// The fields that a kind has are its Encode's to judge: they are never spare.
func TestP8_1OwnFieldsAreNotSpare(t *testing.T) {
	for kind := 1; kind <= 5; kind++ {
		for _, v := range spareValues() {
			if !slices.Contains(has(kind), v.name) {
				continue
			}
			p := api.Page{Kind: kind}
			v.put(&p)
			want, err := plainEncode(p)
			if err == api.ErrSpare {
				t.Fatalf("%s of the kind %d is spare", v.name, kind)
			}
			if b, e := page.Encode(p); e != err || !bytes.Equal(b, want) {
				t.Errorf("Encode(%s): %d, not %d", tell(p), e, err)
			}
		}
	}
}

// spareLists puts all lists that a page's kind has not to another empty list.
func spareLists(p api.Page, room int) api.Page {
	for _, name := range names() {
		if slices.Contains(has(p.Kind), name) {
			continue
		}
		switch name {
		case "Items":
			p.Items = slices.Repeat([]api.Item{inline("spare", "room")}, room)[:0]
		case "Seps":
			p.Seps = slices.Repeat([][]byte{[]byte("spare room")}, room)[:0]
		case "Kids":
			p.Kids = slices.Repeat([]api.Kid{kid(2, 1)}, room)[:0]
		case "Data":
			p.Data = bytes.Repeat([]byte{7}, room)[:0]
		case "List":
			p.List = slices.Repeat([]int{7}, room)[:0]
		}
	}
	return p
}

// A spare list may be nil, empty, or have room behind it.
func TestP8_1SpareListsWithoutItems(t *testing.T) {
	for _, p := range likely() {
		want, _ := plainEncode(p)
		for _, room := range []int{0, 1, 300} {
			q := spareLists(p, room)
			if slices.Contains(has(p.Kind), "Items") == (q.Items != nil && len(q.Items) == 0) {
				t.Fatalf("the lists of %s are not as they were to be", tell(q))
			}
			wantPage(t, q, want)
		}
	}
	for _, x := range wrong() {
		for _, room := range []int{0, 1, 300} {
			wantRefused(t, spareLists(x.p, room), x.want)
		}
	}
}

// A kind that is none of the five comes ahead of all else.
func TestP8_1NoKind(t *testing.T) {
	all := append(likely(), api.Page{})
	for _, x := range wrong() {
		all = append(all, x.p)
	}
	for _, v := range spareValues() {
		var p api.Page
		v.put(&p)
		all = append(all, p)
	}
	for _, p := range all {
		for _, p.Kind = range noKinds() {
			wantRefused(t, p, api.ErrPageKind)
		}
	}
}

// Each page as another kind than its own: what it held is spare then, unless it held nothing.
func TestP8_1AnotherKind(t *testing.T) {
	for _, p := range likely() {
		for kind := 1; kind <= 5; kind++ {
			q := p
			q.Kind = kind
			want, err := plainEncode(q)
			if kind != p.Kind && err == api.OK {
				t.Fatalf("%s has a page", tell(q))
			}
			if b, e := page.Encode(q); e != err || !bytes.Equal(b, want) {
				t.Errorf("Encode(%s): %d, not %d", tell(q), e, err)
			}
		}
	}
}

// Pages of noise with one field or another put otherwise, kinds that are none among them.
func TestP8_1AnyPages(t *testing.T) {
	next := noise(811)
	values := spareValues()
	got := map[api.Errno]int{}
	for range 5000 {
		p := anyPage(next)
		if next(3) == 0 {
			values[next(len(values))].put(&p)
		}
		if next(3) == 0 {
			p.Kind = next(7)
		}
		want, err := plainEncode(p)
		if b, e := page.Encode(p); e != err || !bytes.Equal(b, want) {
			t.Errorf("Encode(%s): %d, not %d", tell(p), e, err)
		}
		got[err]++
	}
	for _, err := range []api.Errno{api.OK, api.ErrPageKind, api.ErrSpare, api.ErrBranch, api.ErrKid, api.ErrData, api.ErrList, api.ErrHead} {
		if got[err] == 0 {
			t.Errorf("no page had the error %d", err)
		}
	}
}
