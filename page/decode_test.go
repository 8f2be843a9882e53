package page_test

import (
	"bytes"
	"testing"

	"coppice/api"
	"coppice/page"
)

// wantValue asks for just this value.
func wantValue(t *testing.T, b []byte, want api.Page) {
	t.Helper()
	if p, err := page.Decode(b); err != api.OK || !same(p, want) {
		t.Errorf("Decode(%x..): %s, %d, not %s", b[:min(len(b), 40)], tell(p), err, tell(want))
	}
}

// wantNoValue asks for an error, and the zero page beside it.
func wantNoValue(t *testing.T, what string, b []byte, want api.Errno) {
	t.Helper()
	if p, err := page.Decode(b); err != want || !same(p, api.Page{}) {
		t.Errorf("Decode of %s, %x..: %s, %d, not %d", what, b[:min(len(b), 40)], tell(p), err, want)
	}
}

// wantLike asks for what P8.2 says word by word, and tells the error.
func wantLike(t *testing.T, what string, b []byte) api.Errno {
	t.Helper()
	want, err := plainDecode(b)
	if p, e := page.Decode(b); e != err || !same(p, want) {
		t.Errorf("Decode of %s, %x..: %s, %d, not %s, %d", what, b[:min(len(b), 40)], tell(p), e, tell(want), err)
	}
	return err
}

// first is a body of this byte, and zeros behind it.
func first(x byte) []byte { return padded([]byte{x}) }

// pageOf is the page of a value that Encode takes, made without package page.
func pageOf(t *testing.T, p api.Page) []byte {
	t.Helper()
	b, err := plainEncode(p)
	if err != api.OK {
		t.Fatalf("%s has no page: %d", tell(p), err)
	}
	return b
}

func TestP8_2Examples(t *testing.T) {
	for _, x := range examples() {
		wantValue(t, fromHex(t, x.begin, x.sum), x.p)
	}
	wantNoValue(t, "zeros", make([]byte, 4096), api.ErrSum)
	wantNoValue(t, "zeros", make([]byte, 4095), api.ErrLength)
	wantNoValue(t, "a right sum", sealed(make([]byte, 4092)), api.ErrPageKind)
	wantNoValue(t, "a right sum", sealed(first(1)), api.ErrLeaf)
}

func TestP8_2PagesOfAllKinds(t *testing.T) {
	all := likely()
	next := noise(82)
	for range 500 {
		all = append(all, anyPage(next))
	}
	for _, p := range all {
		wantValue(t, pageOf(t, p), p)
	}
}

// The length comes ahead of all else, right sums among them.
func TestP8_2Lengths(t *testing.T) {
	for _, p := range likely() {
		b := pageOf(t, p)
		for _, n := range []int{0, 1, 4, 4088, 4091, 4092, 4093, 4095} {
			wantNoValue(t, "a page cut short", b[:n], api.ErrLength)
		}
		for _, n := range []int{1, 4, 4095, 4096} {
			wantNoValue(t, "a page with more behind it", append(bytes.Clone(b), make([]byte, n)...), api.ErrLength)
		}
		wantNoValue(t, "two pages", append(bytes.Clone(b), b...), api.ErrLength)
		wantNoValue(t, "a sealed page", sealed(b), api.ErrLength)
		wantNoValue(t, "a shorter body, sealed", sealed(b[:4091]), api.ErrLength)
	}
	wantNoValue(t, "nothing", nil, api.ErrLength)
	wantNoValue(t, "no byte", []byte{}, api.ErrLength)
	wantNoValue(t, "zeros", make([]byte, 1<<20), api.ErrLength)
}

// A wrong sum comes ahead of a kind that is none, and of what the kind's Decode refuses.
func TestP8_2WrongSums(t *testing.T) {
	var bodies [][]byte
	for x := range 256 {
		bodies = append(bodies, first(byte(x)))
	}
	for _, p := range likely() {
		bodies = append(bodies, pageOf(t, p)[:4092])
	}
	for _, body := range bodies {
		for at := 4092; at < 4096; at++ {
			for _, with := range []byte{1, 0x80, 0xff} {
				b := sealed(body)
				b[at] ^= with
				wantNoValue(t, "a page with another sum", b, api.ErrSum)
			}
		}
		right := sealed(body)
		turned := append(bytes.Clone(body), right[4095], right[4094], right[4093], right[4092])
		wantNoValue(t, "a page with its sum's highest byte first", turned, api.ErrSum)
		wantNoValue(t, "a page without its sum", append(bytes.Clone(body), 0, 0, 0, 0), api.ErrSum)
	}
}

func TestP8_2EachFirstByte(t *testing.T) {
	want := map[int]api.Errno{1: api.ErrLeaf, 2: api.ErrBranch, 3: api.ErrChain, 5: api.ErrMeta}
	for x := range 256 {
		b := sealed(first(byte(x)))
		switch err, ok := want[x]; {
		case x == 4:
			wantValue(t, b, freesOf(0))
		case ok:
			wantNoValue(t, "a kind with zeros behind it", b, err)
		default:
			wantNoValue(t, "no kind with zeros behind it", b, api.ErrPageKind)
		}
	}
}

// Bodies that were some kind's, under another first byte: no kind takes them, and the error is by the first byte alone.
func TestP8_2AnotherFirstByte(t *testing.T) {
	want := map[int]api.Errno{1: api.ErrLeaf, 2: api.ErrBranch, 3: api.ErrChain, 4: api.ErrFrees, 5: api.ErrMeta}
	for _, p := range likely() {
		for _, x := range []int{0, 1, 2, 3, 4, 5, 6, 7, 128, 129, 133, 254, 255} {
			body := pageOf(t, p)[:4092]
			body[0] = byte(x)
			err := wantLike(t, "a body under another first byte", sealed(body))
			if _, ok := want[x]; !ok && err != api.ErrPageKind || ok && err != api.OK && err != want[x] {
				t.Errorf("the first byte %d: %d", x, err)
			}
		}
	}
}

// fault is a body that no kind has.
type fault struct {
	what string
	p    api.Page // whose body it was
	at   int
	to   byte
	want api.Errno
}

func faults() []fault {
	one, two := leafOf(inline("k", "vv")), leafOf(inline("a", "x"), inline("b", "y"))
	wood, long := branchOf(1, []string{"m"}, kid(2, 1), kid(3, 5)), branchOf(1, []string{"a", "b"}, kidsFor(2)...)
	data, full := chainOf(0, []byte("abc")), chainOf(7, someBytes(4085))
	list, many := freesOf(0, 2, 5, 300), freesOf(9, someNumbers(10, 1021)...)
	head := metaOf(258, 300, 7, 2, 1000, 299, 3)
	return []fault{
		{"no item", one, 1, 0, api.ErrLeaf},
		{"a number that is too long", one, 3, 0x80, api.ErrLeaf},
		{"another slot", one, 5, 8, api.ErrLeaf},
		{"a byte behind the items", one, 11, 1, api.ErrLeaf},
		{"the last byte of a leaf", one, 4091, 1, api.ErrLeaf},
		{"keys that fall", two, 9, 'c', api.ErrLeaf},
		{"one key twice", two, 9, 'b', api.ErrLeaf},
		{"the level 0", wood, 1, 0, api.ErrBranch},
		{"the level 16", wood, 1, 16, api.ErrBranch},
		{"no kid", wood, 2, 0, api.ErrBranch},
		{"more kids", wood, 2, 3, api.ErrBranch},
		{"another slot", wood, 6, 17, api.ErrBranch},
		{"the kid 1", wood, 8, 1, api.ErrBranch},
		{"a kid without keys", wood, 12, 0, api.ErrBranch},
		{"the last byte of a branch", wood, 4091, 1, api.ErrBranch},
		{"separators that fall", long, 18, 'c', api.ErrBranch},
		{"the next 1", data, 1, 1, api.ErrChain},
		{"a next of fewer bytes", data, 1, 7, api.ErrChain},
		{"no data", data, 5, 0, api.ErrChain},
		{"less data", data, 5, 2, api.ErrChain},
		{"more data than there is", data, 6, 0xff, api.ErrChain},
		{"the last byte of a chain", data, 4091, 1, api.ErrChain},
		{"the next 1", full, 1, 1, api.ErrChain},
		{"a next that is too great", full, 4, 1, api.ErrChain},
		{"less data and a next", full, 5, 0xf4, api.ErrChain},
		{"the next 1", list, 1, 1, api.ErrFrees},
		{"a next of fewer numbers", list, 1, 9, api.ErrFrees},
		{"fewer numbers", list, 5, 2, api.ErrFrees},
		{"more numbers", list, 5, 4, api.ErrFrees},
		{"the number 1", list, 7, 1, api.ErrFrees},
		{"numbers that fall", list, 7, 6, api.ErrFrees},
		{"a number that is too great", list, 18, 1, api.ErrFrees},
		{"the last byte of frees", list, 4091, 1, api.ErrFrees},
		{"fewer numbers and a next", many, 5, 0xfc, api.ErrFrees},
		{"the first mark", head, 1, 'C', api.ErrMeta},
		{"a version that is too great", head, 11, 0x80, api.ErrMeta},
		{"the count 44", head, 13, 0, api.ErrMeta},
		{"the root 1", head, 16, 1, api.ErrMeta},
		{"the height 0", head, 20, 0, api.ErrMeta},
		{"the height 17", head, 20, 17, api.ErrMeta},
		{"a byte behind the numbers", head, 37, 1, api.ErrMeta},
		{"the last mark", head, 4091, 0, api.ErrMeta},
	}
}

// Right sums over bodies that no kind has: each error of each kind's Decode.
func TestP8_2TheErrorsOfEachKind(t *testing.T) {
	for _, x := range faults() {
		body := pageOf(t, x.p)[:4092]
		if body[x.at] == x.to {
			t.Fatalf("%s: nothing was put otherwise", x.what)
		}
		body[x.at] = x.to
		wantNoValue(t, x.what, sealed(body), x.want)
	}
}

// Bodies turned here and there, and bodies of noise, under right sums.
func TestP8_2AnyBodies(t *testing.T) {
	next := noise(822)
	got := map[api.Errno]int{}
	for range 6000 {
		body := pageOf(t, anyPage(next))[:4092]
		for range next(3) {
			body[next([]int{8, 40, 4092}[next(3)])] = byte([]int{next(8), next(256)}[next(2)])
		}
		got[wantLike(t, "a body turned", sealed(body))]++
	}
	for range 3000 {
		body := make([]byte, 4092)
		for i := range 1 + next([]int{20, 4092}[next(2)]) {
			body[i] = byte(next([]int{4, 256}[next(2)]))
		}
		body[0] = byte(next(7))
		got[wantLike(t, "a body of noise", sealed(body))]++
	}
	for _, err := range []api.Errno{api.OK, api.ErrPageKind, api.ErrLeaf, api.ErrBranch, api.ErrChain, api.ErrFrees, api.ErrMeta} {
		if got[err] == 0 {
			t.Errorf("no body had the error %d", err)
		}
	}
}
