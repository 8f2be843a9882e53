package branch_test

import (
	"bytes"
	"fmt"
	"slices"
	"strings"
	"testing"

	"coppice/api"
	"coppice/branch"
)

// wood is a branch as it is handed in and answered.
type wood struct {
	level int
	seps  [][]byte
	kids  []api.Kid
}

// list is a list of strings as bytes.
func list(l ...string) [][]byte {
	var out [][]byte
	for _, s := range l {
		out = append(out, []byte(s))
	}
	return out
}

// kid is K(no, keys).
func kid(no, keys int) api.Kid { return api.Kid{No: no, Keys: keys} }

// kidsFor are kids that may be, one more than n.
func kidsFor(n int) []api.Kid {
	var l []api.Kid
	for i := range n + 1 {
		l = append(l, kid(2+i*257%500000, 1+i*65537))
	}
	return l
}

// above is a branch of level 1 with these separators, and kids that may be.
func above(seps ...string) wood { return wood{1, list(seps...), kidsFor(len(seps))} }

// xs is a string of n bytes.
func xs(n int) string { return strings.Repeat("x", n) }

// plainV is a number's least form, written without package wire.
func plainV(x uint64) []byte {
	if x < 128 {
		return []byte{byte(x)}
	}
	return append([]byte{byte(x%128 + 128)}, plainV(x/128)...)
}

// plainNumber is a number in n bytes, the lowest first.
func plainNumber(x, n int) []byte {
	var out []byte
	for range n {
		out = append(out, byte(x%256))
		x /= 256
	}
	return out
}

// plainPrefix is what all separators begin with, sought from the longest on.
func plainPrefix(seps [][]byte) []byte {
	if len(seps) == 0 {
		return nil
	}
	for n := len(seps[0]); n > 0; n-- {
		head := seps[0][:n]
		if !slices.ContainsFunc(seps, func(s []byte) bool { return !bytes.HasPrefix(s, head) }) {
			return head
		}
	}
	return nil
}

// plainSize adds up P5.1's numbers.
func plainSize(seps [][]byte) int {
	p := len(plainPrefix(seps))
	n := 12 + len(plainV(uint64(p))) + p
	for _, s := range seps {
		n += 10 + len(plainV(uint64(len(s)-p))) + len(s) - p
	}
	return n
}

// plainError goes through the chapter's errors one after the other.
func plainError(w wood) api.Errno {
	if w.level < 1 || w.level > 15 || len(w.kids) == 0 || len(w.kids) != len(w.seps)+1 {
		return api.ErrBranch
	}
	for _, k := range w.kids {
		if k.No < 2 || k.No > 524286 || k.Keys < 1 || k.Keys > 4294967295 {
			return api.ErrKid
		}
	}
	for _, s := range w.seps {
		if len(s) == 0 || len(s) > 255 {
			return api.ErrSize
		}
	}
	for i := 1; i < len(w.seps); i++ {
		if string(w.seps[i]) <= string(w.seps[i-1]) {
			return api.ErrOrder
		}
	}
	if plainSize(w.seps) > 4092 {
		return api.ErrTooBig
	}
	return api.OK
}

// plainKid is a kid's eight bytes.
func plainKid(k api.Kid) []byte { return append(plainNumber(k.No, 4), plainNumber(k.Keys, 4)...) }

// draft is a body in its parts, so that a test may spoil one of them and leave the others.
type draft struct {
	kind   byte
	level  byte
	count  int
	length []byte // of the prefix
	prefix []byte
	slots  []int
	first  []byte
	cells  [][]byte
}

// draftOf is the draft of a branch's body, with a prefix of p bytes.
func draftOf(w wood, p int) draft {
	d := draft{kind: 2, level: byte(w.level), count: len(w.kids), length: plainV(uint64(p)), first: plainKid(w.kids[0])}
	if p > 0 {
		d.prefix = bytes.Clone(w.seps[0][:p])
	}
	for i, s := range w.seps {
		d.cells = append(d.cells, slices.Concat(plainV(uint64(len(s)-p)), s[p:], plainKid(w.kids[i+1])))
	}
	d.place()
	return d
}

// place lays the slots anew, one cell right behind the other.
func (d *draft) place() {
	at := 4 + len(d.length) + len(d.prefix) + 2*len(d.cells) + len(d.first)
	d.slots = nil
	for _, c := range d.cells {
		d.slots = append(d.slots, at)
		at += len(c)
	}
}

// bytes are those that are used.
func (d draft) bytes() []byte {
	out := append([]byte{d.kind, d.level}, plainNumber(d.count, 2)...)
	out = append(append(out, d.length...), d.prefix...)
	for _, s := range d.slots {
		out = append(out, plainNumber(s, 2)...)
	}
	out = append(out, d.first...)
	for _, c := range d.cells {
		out = append(out, c...)
	}
	return out
}

// padded lays zeros behind b up to a body's length.
func padded(t *testing.T, b []byte) []byte {
	t.Helper()
	if len(b) > 4092 {
		t.Fatalf("a body of %d bytes", len(b))
	}
	return append(b, make([]byte, 4092-len(b))...)
}

// plainBody is the body of a branch that may be.
func plainBody(t *testing.T, w wood) []byte {
	t.Helper()
	return padded(t, draftOf(w, len(plainPrefix(w.seps))).bytes())
}

// same tells whether two branches are the same, nil and the empty list being one.
func same(a, b wood) bool {
	return a.level == b.level && slices.EqualFunc(a.seps, b.seps, bytes.Equal) && slices.Equal(a.kids, b.kids)
}

// String is a branch in few words.
func (w wood) String() string {
	var b strings.Builder
	fmt.Fprintf(&b, "(level %d, %d separators:", w.level, len(w.seps))
	for _, s := range w.seps[:min(len(w.seps), 4)] {
		fmt.Fprintf(&b, " %.20q(%d bytes)", s, len(s))
	}
	fmt.Fprintf(&b, ", %d kids: %v)", len(w.kids), w.kids[:min(len(w.kids), 4)])
	return b.String()
}

// noise answers one number behind the other, always the same ones.
func noise(seed uint64) func(n int) int {
	return func(n int) int {
		seed = seed*6364136223846793005 + 1442695040888963407
		return int((seed >> 33) % uint64(n))
	}
}

// anyString is a string of noise over few letters, so that many strings begin alike.
func anyString(next func(int) int, least, most int) []byte {
	s := make([]byte, least+next(most-least+1))
	for i := range s {
		s[i] = "aab\x00\xff"[next(5)]
	}
	return s
}

// anyKid is a kid that may be, often one at an edge.
func anyKid(next func(int) int) api.Kid {
	return kid(
		[]int{2, 3, 255, 256, 65535, 65536, 524286, 2 + next(524285)}[next(8)],
		[]int{1, 2, 255, 256, 65536, 1 << 24, 1<<31 - 1, 1 << 31, 4294967295, 1 + next(1<<31)}[next(10)])
}

// anyWood is a branch of n kids at most, that may be but for its size: separators rise, all behind one beginning.
func anyWood(next func(int) int, n int) wood {
	head := anyString(next, 0, []int{0, 3, 126, 127, 128, 130}[next(6)])
	most := []int{1, 4, 8, 125}[next(4)]
	w := wood{level: 1 + next(15)}
	for range n - 1 {
		w.seps = append(w.seps, append(bytes.Clone(head), anyString(next, 1, most)...))
	}
	slices.SortFunc(w.seps, bytes.Compare)
	w.seps = slices.CompactFunc(w.seps, bytes.Equal)
	for range len(w.seps) + 1 {
		w.kids = append(w.kids, anyKid(next))
	}
	return w
}

// likely are branches that may be, with the edges that the chapter names.
func likely() []wood {
	l := []wood{
		above(),
		{15, nil, []api.Kid{kid(524286, 4294967295)}},
		above("m"),
		{2, list("ma", "mb"), []api.Kid{kid(2, 1), kid(3, 1), kid(9, 300)}},
		above("a", "b"),
		above("a", "aa", "ab", "b"),
		above("m", "ma", "maa", "mb"), // the first one begins all others
		above("\x00", "\x00\x00", "\xff", "\xff\xff"),
		above("\x00", "\x00\x00", "\x00\x00\x00"),
		above("\x7f", "\x80"),
		above(xs(255)),
		above(xs(254), xs(255)),
		above(xs(127)),
		above(xs(128)),
		above(xs(127)+"a", xs(127)+"b"),
		above(xs(128)+"a", xs(128)+"b"),
		above(xs(127), xs(128)),
		above(xs(128), xs(129)),
		above("x", xs(128), xs(129)), // suffixes of 127 and 128 bytes
		above("a", "b"+xs(126), "c"+xs(127), "d"+xs(254)),
		above("x"+xs(127), "x"+xs(127)+"y"+xs(126), "x"+xs(127)+"z"+xs(125)),
	}
	for level := 1; level <= 15; level++ {
		l = append(l, wood{level, list("k"), kidsFor(1)})
	}
	next := noise(5)
	for n := 1; n <= 40; n++ {
		w := anyWood(next, n)
		for plainSize(w.seps) > 4092 {
			w.seps, w.kids = w.seps[1:], w.kids[1:]
		}
		l = append(l, w)
	}
	return append(l, crowd(76), crowd(3), full(), fullPrefix())
}

// crowd is a branch of many short separators: one begins all others, 256 have one byte more, n have two.
// Of 76 the body is 7 bytes short of full; no branch has more kids.
func crowd(n int) wood {
	l := []string{"k"}
	for i := range 256 {
		l = append(l, string([]byte{'k', byte(i)}))
	}
	for i := range n {
		l = append(l, string([]byte{'k', byte(i / 256), byte(i)}))
	}
	slices.Sort(l)
	return above(l...)
}

// full is a branch whose body has no byte left.
func full() wood {
	var l []string
	for i := range 16 {
		l = append(l, string(byte('a'+i))+xs(200))
	}
	return fill(l, 4092)
}

// fullPrefix is a branch whose body has no byte left, its separators behind a prefix of 200 bytes.
func fullPrefix() wood {
	var l []string
	for i := range 60 {
		l = append(l, xs(200)+string(byte('0'+i))+xs(40))
	}
	w := fill(l, 4092)
	w.level = 15
	return w
}

// fill makes the last separators longer, one after the other, till the branch has that Size.
func fill(l []string, size int) wood {
	for i := len(l) - 1; i >= 0; i-- {
		for len(l[i]) < 255 && plainSize(list(l...)) < size {
			l[i] += "x"
		}
	}
	w := above(l...)
	if n := plainSize(w.seps); n != size {
		panic(fmt.Sprintf("these separators come to %d, not to %d", n, size))
	}
	return w
}

// mustEncode is the body of a branch that may be.
func mustEncode(t *testing.T, w wood) []byte {
	t.Helper()
	b, err := branch.Encode(w.level, w.seps, w.kids)
	if err != api.OK {
		t.Fatalf("Encode%v: %d", w, err)
	}
	return b
}

// decoded is what Decode answers, as a branch.
func decoded(body []byte) (wood, api.Errno) {
	level, seps, kids, err := branch.Decode(body)
	return wood{level, seps, kids}, err
}
