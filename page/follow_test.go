package page_test

import (
	"testing"

	"coppice/api"
	"coppice/page"
)

// mustEncode is the page of a value that Encode takes.
func mustEncode(t *testing.T, p api.Page) []byte {
	t.Helper()
	b, err := page.Encode(p)
	if err != api.OK {
		t.Fatalf("Encode(%s): %d", tell(p), err)
	}
	return b
}

// mustDecode is the value of a page that decodes.
func mustDecode(t *testing.T, b []byte) api.Page {
	t.Helper()
	p, err := page.Decode(b)
	if err != api.OK {
		t.Fatalf("Decode(%x..): %d", b[:min(len(b), 40)], err)
	}
	return p
}

func TestP8_4ThereAndBack(t *testing.T) {
	next := noise(84)
	all := likely()
	for range 1000 {
		all = append(all, anyPage(next))
	}
	for _, p := range all {
		b := mustEncode(t, p)
		wantValue(t, b, p)
		wantPage(t, mustDecode(t, b), b)
		// nil and the empty list are the same.
		wantValue(t, mustEncode(t, spareLists(p, 3)), p)
	}
}

func TestP8_4BackAndThere(t *testing.T) {
	next := noise(85)
	taken := map[int]int{}
	for range 8000 {
		body := mustEncode(t, anyPage(next))[:4092]
		body[next([]int{8, 37, 4092}[next(3)])] ^= 1 << next(8)
		b := sealed(body)
		p, err := page.Decode(b)
		if err != api.OK {
			continue
		}
		taken[p.Kind]++
		wantPage(t, p, b)
	}
	for kind := 1; kind <= 5; kind++ {
		if taken[kind] < 20 {
			t.Errorf("only %d pages of the kind %d were taken", taken[kind], kind)
		}
	}
}

// near are values that are hardly unlike one another, of all kinds.
func near() []api.Page {
	l := []api.Page{
		leafOf(inline("k", "v")), leafOf(inline("k", "v\x00")), leafOf(inline("k\x00", "v")), leafOf(inline("kv", "")),
		leafOf(inline("k", ""), inline("v", "")), leafOf(inline("k", ""), inline("kv", "")),
		leafOf(chained("k", 600, 2)), leafOf(chained("k", 600, 3)), leafOf(chained("k", 601, 2)),
		branchOf(1, nil, kid(2, 1)), branchOf(2, nil, kid(2, 1)), branchOf(1, nil, kid(3, 1)), branchOf(1, nil, kid(2, 2)),
		branchOf(1, []string{"k"}, kid(2, 1), kid(3, 1)), branchOf(1, []string{"k\x00"}, kid(2, 1), kid(3, 1)), branchOf(1, []string{"k"}, kid(3, 1), kid(2, 1)),
		chainOf(0, []byte{0}), chainOf(0, []byte{0, 0}), chainOf(0, []byte{2, 0, 0, 0}), chainOf(0, []byte{2, 0, 0, 0, 3, 0, 0, 0}),
		chainOf(0, make([]byte, 4085)), chainOf(2, make([]byte, 4085)), chainOf(3, make([]byte, 4085)),
		freesOf(0), freesOf(0, 2), freesOf(0, 2, 3), freesOf(0, 3),
		freesOf(0, someNumbers(2, 1021)...), freesOf(2, someNumbers(2, 1021)...), freesOf(3, someNumbers(2, 1021)...),
	}
	for _, x := range [][7]int{{1, 3}, {2, 3}, {1, 4}, {1, 4, 2, 1, 1}, {1, 4, 3, 1, 1}, {1, 4, 2, 2, 1}, {1, 4, 2, 1, 2}, {1, 4, 0, 0, 0, 2, 1}, {1, 4, 0, 0, 0, 3, 1}, {1, 4, 0, 0, 0, 2, 2}} {
		l = append(l, metaOf(x[0], x[1], x[2], x[3], x[4], x[5], x[6]))
	}
	return l
}

// Unlike values have unlike pages, whatever their kinds; their bodies are unlike too.
func TestP8_4UnlikeValuesHaveUnlikePages(t *testing.T) {
	next := noise(86)
	all := append(near(), likely()...)
	for range 1000 {
		all = append(all, anyPage(next))
	}
	seen := map[string]api.Page{}
	for _, p := range all {
		body := string(mustEncode(t, p)[:4092])
		if other, ok := seen[body]; ok && !same(other, p) {
			t.Errorf("one page of %s and of %s", tell(p), tell(other))
		}
		seen[body] = p
	}
	if len(seen) < len(near()) {
		t.Errorf("only %d values had a page of their own", len(seen))
	}
}

// A page's first byte is its kind, and it is read as no other.
func TestP8_4OnePageOneKind(t *testing.T) {
	for _, p := range append(near(), likely()...) {
		b := mustEncode(t, p)
		if got := mustDecode(t, b); got.Kind != p.Kind || int(b[0]) != p.Kind {
			t.Errorf("the page of %s, which begins with %d, is of the kind %d", tell(p), b[0], got.Kind)
		}
	}
}
