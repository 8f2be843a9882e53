package branch_test

import (
	"bytes"
	"encoding/hex"
	"math"
	"slices"
	"strings"
	"testing"

	"coppice/api"
	"coppice/branch"
)

// wantBody asks that Encode answers the body.
func wantBody(t *testing.T, w wood, want []byte) {
	t.Helper()
	b, err := branch.Encode(w.level, w.seps, w.kids)
	if err != api.OK || !bytes.Equal(b, want) {
		t.Errorf("Encode%v: %d, %d bytes, %x", w, err, len(b), b[:min(len(b), 40)])
	}
}

// wantError asks that Encode answers the error, and no body.
func wantError(t *testing.T, w wood, want api.Errno) {
	t.Helper()
	if b, err := branch.Encode(w.level, w.seps, w.kids); err != want || b != nil {
		t.Errorf("Encode%v: %d and %d bytes, not %d", w, err, len(b), want)
	}
}

// fromHex is a body written as the chapter's examples are.
func fromHex(t *testing.T, text string) []byte {
	t.Helper()
	b, err := hex.DecodeString(strings.ReplaceAll(text, " ", ""))
	if err != nil {
		t.Fatal(err)
	}
	return padded(t, b)
}

// example is a branch, and its body in hex without the zeros behind it.
type example struct {
	w    wood
	body string
}

// examples are the chapter's bodies, and a few more.
func examples() []example {
	return []example{
		{wood{1, nil, []api.Kid{kid(2, 1)}}, "02 01 0100 00 02000000 01000000"},
		{wood{1, list("m"), []api.Kid{kid(2, 1), kid(3, 5)}}, "02 01 0200 01 6D 1000 02000000 01000000 00 03000000 05000000"},
		{wood{2, list("ma", "mb"), []api.Kid{kid(2, 1), kid(3, 1), kid(9, 300)}}, "02 02 0300 01 6D 1200 1C00 02000000 01000000 01 61 03000000 01000000 01 62 09000000 2C010000"},
		{wood{15, nil, []api.Kid{kid(524286, 4294967295)}}, "02 0F 0100 00 FEFF0700 FFFFFFFF"},
		{wood{1, list("\xff", "\xff\x00"), []api.Kid{kid(4, 1), kid(3, 2), kid(2, 3)}}, "02 01 0300 01 FF 1200 1B00 04000000 01000000 00 03000000 02000000 01 00 02000000 03000000"},
	}
}

func TestP5_2Examples(t *testing.T) {
	for _, c := range examples() {
		wantBody(t, c.w, fromHex(t, c.body))
	}
}

func TestP5_2TheExamplesErrors(t *testing.T) {
	one, two, three := []api.Kid{kid(2, 1)}, []api.Kid{kid(2, 1), kid(3, 1)}, []api.Kid{kid(2, 1), kid(3, 1), kid(4, 1)}
	wantError(t, wood{0, nil, one}, api.ErrBranch)
	wantError(t, wood{16, nil, one}, api.ErrBranch)
	wantError(t, wood{1, nil, nil}, api.ErrBranch)
	wantError(t, wood{1, list("m"), one}, api.ErrBranch)
	wantError(t, wood{1, nil, []api.Kid{kid(1, 1)}}, api.ErrKid)
	wantError(t, wood{1, nil, []api.Kid{kid(524287, 1)}}, api.ErrKid)
	wantError(t, wood{1, nil, []api.Kid{kid(2, 0)}}, api.ErrKid)
	wantError(t, wood{1, list(""), two}, api.ErrSize)
	wantError(t, wood{1, list("b", "a"), three}, api.ErrOrder)
	wantError(t, wood{1, list("a", "a"), three}, api.ErrOrder)
	wantError(t, wood{0, list("b", ""), []api.Kid{kid(1, 1)}}, api.ErrBranch)
}

func TestP5_2Bodies(t *testing.T) {
	for _, w := range likely() {
		wantBody(t, w, plainBody(t, w))
	}
}

func TestP5_2AnyBranch(t *testing.T) {
	next := noise(52)
	for range 3000 {
		w := anyWood(next, 1+next(60))
		if err := plainError(w); err != api.OK {
			wantError(t, w, err)
			continue
		}
		wantBody(t, w, plainBody(t, w))
	}
}

func TestP5_2Levels(t *testing.T) {
	for level := 1; level <= 15; level++ {
		for _, seps := range [][][]byte{nil, list("m"), list("a", "b")} {
			w := wood{level, seps, kidsFor(len(seps))}
			wantBody(t, w, plainBody(t, w))
		}
	}
	for _, level := range []int{math.MinInt, -1, 0, 16, 17, 255, 256, 257, 1 << 32, 1<<32 + 1, math.MaxInt} {
		for _, seps := range [][][]byte{nil, list("m"), list("a", "b")} {
			wantError(t, wood{level, seps, kidsFor(len(seps))}, api.ErrBranch)
		}
	}
}

func TestP5_2AsManyKidsAsSeparatorsAndOne(t *testing.T) {
	all := "abcdefgh"
	for n := range 6 {
		seps := list(strings.Split(all[:n], "")...)
		for kids := range 9 {
			w := wood{3, seps, kidsFor(8)[:kids]}
			if kids == n+1 {
				wantBody(t, w, plainBody(t, w))
			} else {
				wantError(t, w, api.ErrBranch)
			}
		}
	}
	wantError(t, wood{1, [][]byte{}, []api.Kid{}}, api.ErrBranch)
	wantError(t, wood{1, make([][]byte, 65536), kidsFor(0)}, api.ErrBranch)
	wantError(t, wood{1, nil, make([]api.Kid, 65537)}, api.ErrBranch)
}

// among are branches that may be, but for the kid k, at each of their places.
func among(k api.Kid) []wood {
	l := []wood{{1, nil, []api.Kid{k}}}
	for i := range 4 {
		w := above("a", "b", "c")
		w.kids[i] = k
		l = append(l, w)
	}
	return l
}

func TestP5_2Kids(t *testing.T) {
	for _, no := range []int{2, 3, 255, 256, 65535, 65536, 524285, 524286} {
		for _, keys := range []int{1, 2, 255, 256, 1<<31 - 1, 1 << 31, 4294967294, 4294967295} {
			for _, w := range among(kid(no, keys)) {
				wantBody(t, w, plainBody(t, w))
			}
		}
	}
	for _, no := range []int{math.MinInt, -2, -1, 0, 1, 524287, 524288, 1<<32 - 1, 1 << 32, 1<<32 + 2, math.MaxInt} {
		for _, w := range among(kid(no, 1)) {
			wantError(t, w, api.ErrKid)
		}
	}
	for _, keys := range []int{math.MinInt, -1, 0, 4294967296, 4294967297, 1 << 62, math.MaxInt} {
		for _, w := range among(kid(2, keys)) {
			wantError(t, w, api.ErrKid)
		}
	}
}

// Kids are as they are: two may be of one page, and their numbers stand in any order.
func TestP5_2KidsInAnyOrder(t *testing.T) {
	for _, kids := range [][]api.Kid{
		{kid(9, 4), kid(5, 3), kid(2, 2)},
		{kid(7, 7), kid(7, 7), kid(7, 7)},
	} {
		w := wood{1, list("a", "b"), kids}
		wantBody(t, w, plainBody(t, w))
	}
}

func TestP5_2SeparatorLengths(t *testing.T) {
	for _, n := range []int{1, 2, 126, 127, 128, 129, 254, 255} {
		for _, w := range []wood{above(xs(n)), above(xs(n), "y"), above("a", xs(n)), above("a", xs(n), "y")} {
			wantBody(t, w, plainBody(t, w))
		}
	}
	for _, n := range []int{0, 256, 257, 5000} {
		for _, w := range []wood{above(xs(n)), above(xs(n), "y"), above("a", xs(n)), above("a", xs(n), "y"), above(xs(n), xs(n))} {
			wantError(t, w, api.ErrSize)
		}
	}
	wantError(t, wood{1, [][]byte{nil}, kidsFor(1)}, api.ErrSize)
	wantBody(t, above(xs(254), xs(255)), plainBody(t, above(xs(254), xs(255))))
	wantError(t, above(xs(255), xs(256)), api.ErrSize)
}

// Prefixes and suffixes on both sides of 128 bytes, where V of their length takes one byte more.
func TestP5_2PrefixesAndSuffixes(t *testing.T) {
	for p := 120; p <= 130; p++ {
		for s := 118; s <= 124; s++ {
			w := above(xs(p)+"a"+xs(s-1), xs(p)+"b", xs(p)+"c"+xs(s))
			wantBody(t, w, plainBody(t, w))
		}
	}
	for p := 1; p <= 127; p++ {
		w := above(xs(p), xs(p)+"a"+xs(126), xs(p)+"b"+xs(127))
		wantBody(t, w, plainBody(t, w))
	}
	both := above(xs(128)+"a"+xs(126), xs(128)+"b"+xs(125))
	wantBody(t, both, plainBody(t, both))
}

func TestP5_2Order(t *testing.T) {
	for _, seps := range []string{"b a", "a a", "ab a", "a b b", "a c b", "b a c", "a b c d d", "a b d c e", "aa ab aa", "\x80 \x7f", "b ab"} {
		wantError(t, above(strings.Fields(seps)...), api.ErrOrder)
	}
	for _, seps := range []string{"a aa", "a b", "ab b", "\x7f \x80", "a aa ab b"} {
		w := above(strings.Fields(seps)...)
		wantBody(t, w, plainBody(t, w))
	}
}

// A branch may have several faults at once; whatever others it has, the one is answered that is named first.
func TestP5_2TheFirstErrorThatHolds(t *testing.T) {
	many := make([]string, 20)
	for i := range many {
		many[i] = string(byte('a'+i)) + xs(240)
	}
	for faults := range 32 {
		level, seps := 1, slices.Clone(many[:3])
		want := api.OK
		if faults&1 != 0 {
			seps, want = slices.Clone(many), api.ErrTooBig
		}
		if faults&2 != 0 {
			seps[1], seps[2], want = seps[2], seps[1], api.ErrOrder
		}
		if faults&4 != 0 {
			seps, want = append(seps, ""), api.ErrSize
		}
		kids := kidsFor(len(seps))
		if faults&8 != 0 {
			kids[len(kids)-1].Keys, want = 0, api.ErrKid
		}
		if faults&16 != 0 {
			level, want = 0, api.ErrBranch
		}
		w := wood{level, list(seps...), kids}
		if want == api.OK {
			wantBody(t, w, plainBody(t, w))
			continue
		}
		wantError(t, w, want)
		// Too few kids, or too many, is the first of all errors too.
		wantError(t, wood{1, w.seps, kids[1:]}, api.ErrBranch)
		wantError(t, wood{1, w.seps, append(kids, kid(1, 1))}, api.ErrBranch)
		wantError(t, wood{1, w.seps, nil}, api.ErrBranch)
	}
}

// The same of one list: a separator that is too long ahead of an order that is wrong, and the other way round.
func TestP5_2SizeAheadOfOrder(t *testing.T) {
	for _, seps := range [][]string{
		{"b", "a", xs(256)}, {xs(256), "b", "a"}, {"b", xs(256), "a"}, {"a", ""}, {"", ""}, {xs(256), xs(256)}, {"b", "b", ""},
	} {
		wantError(t, above(seps...), api.ErrSize)
		w := above(seps...)
		w.kids[0].No = 1
		wantError(t, w, api.ErrKid)
	}
}

func TestP5_2AnyWrongBranch(t *testing.T) {
	next := noise(53)
	got := map[api.Errno]int{}
	for range 20000 {
		w := wood{level: 1 + next(15)}
		if next(10) == 0 {
			w.level = []int{-1, 0, 16}[next(3)]
		}
		long := next(12) == 0
		for range next(4) + 20*next(2)*next(2)*next(2) {
			s := anyString(next, next(2), 3)
			if long {
				s = append(s, anyString(next, 230, 253)...)
			}
			w.seps = append(w.seps, s)
		}
		if next(3) > 0 {
			slices.SortFunc(w.seps, bytes.Compare)
		}
		for range len(w.seps) + 1 - next(11)/10 {
			w.kids = append(w.kids, anyKid(next))
		}
		if len(w.kids) > 0 && next(8) == 0 {
			w.kids[next(len(w.kids))] = kid(next(4), next(3))
		}
		want := plainError(w)
		got[want]++
		if want == api.OK {
			wantBody(t, w, plainBody(t, w))
		} else {
			wantError(t, w, want)
		}
	}
	if len(got) != 6 {
		t.Errorf("not every error came up: %v", got)
	}
}

func TestP5_2JustFits(t *testing.T) {
	for _, w := range []wood{full(), fullPrefix()} {
		if n := branch.Size(w.seps); n != api.BodySize {
			t.Fatalf("Size %d", n)
		}
		wantBody(t, w, plainBody(t, w))
		i := slices.IndexFunc(w.seps, func(s []byte) bool { return len(s) < 255 })
		w.seps[i] = append(w.seps[i], 'x')
		if n := branch.Size(w.seps); n != api.BodySize+1 {
			t.Fatalf("Size %d", n)
		}
		wantError(t, w, api.ErrTooBig)
	}
}

// Sizes about the limit, byte by byte.
func TestP5_2AboutTheLimit(t *testing.T) {
	var l []string
	for i := range 16 {
		l = append(l, string(byte('a'+i))+xs(200))
	}
	for size := 4080; size <= 4110; size++ {
		w := fill(slices.Clone(l), size)
		if size <= 4092 {
			wantBody(t, w, plainBody(t, w))
		} else {
			wantError(t, w, api.ErrTooBig)
		}
	}
}

func TestP5_2Crowds(t *testing.T) {
	wantBody(t, crowd(76), plainBody(t, crowd(76)))
	wantError(t, crowd(77), api.ErrTooBig)
	many := make([]string, 70000)
	for i := range many {
		many[i] = string([]byte{byte(i >> 16), byte(i >> 8), byte(i)})
	}
	for _, n := range []int{65534, 65535, 65536, 70000} {
		wantError(t, wood{1, list(many[:n]...), slices.Repeat(kidsFor(0), n+1)}, api.ErrTooBig)
	}
}
