package chain_test

import (
	"bytes"
	"encoding/hex"
	"fmt"
	"math"
	"slices"
	"strings"
	"testing"

	"coppice/api"
)

// dataPage is a page of data.
type dataPage struct {
	next int
	data []byte
}

// listPage is a page of frees.
type listPage struct {
	next int
	list []int
}

// String is a page in few words.
func (p dataPage) String() string {
	return fmt.Sprintf("(next %d, %d bytes: %x)", p.next, len(p.data), p.data[:min(len(p.data), 8)])
}

// String is a page in few words.
func (p listPage) String() string {
	return fmt.Sprintf("(next %d, %d numbers: %v)", p.next, len(p.list), p.list[:min(len(p.list), 8)])
}

// same tells whether two pages are the same, nil and the empty list being one.
func (p dataPage) same(q dataPage) bool { return p.next == q.next && bytes.Equal(p.data, q.data) }

// same tells whether two pages are the same, nil and the empty list being one.
func (p listPage) same(q listPage) bool { return p.next == q.next && slices.Equal(p.list, q.list) }

// someBytes are n bytes, hardly any two neighbours alike.
func someBytes(n int) []byte {
	b := make([]byte, n)
	for i := range b {
		b[i] = byte(i*7 + i/256 + 1)
	}
	return b
}

// someNumbers are n numbers that rise, from a first one on.
func someNumbers(first, n int) []int {
	l := make([]int, n)
	for i := range l {
		l[i] = first + i
	}
	return l
}

// plainNumber is a number in n bytes, the lowest first, written without package wire.
func plainNumber(x, n int) []byte {
	var out []byte
	for range n {
		out = append(out, byte(x))
		x >>= 8
	}
	return out
}

// plainNumbers are numbers in four bytes each.
func plainNumbers(list []int) []byte {
	var out []byte
	for _, no := range list {
		out = append(out, plainNumber(no, 4)...)
	}
	return out
}

// plainBody is a body of these parts, whether one may have them or not.
func plainBody(t *testing.T, kind byte, next, count int, rest []byte) []byte {
	t.Helper()
	return padded(t, slices.Concat([]byte{kind}, plainNumber(next, 4), plainNumber(count, 2), rest))
}

// body is the body of a page of data, whether it may be or not.
func (p dataPage) body(t *testing.T) []byte {
	t.Helper()
	return plainBody(t, 3, p.next, len(p.data), p.data)
}

// body is the body of a page of frees, whether it may be or not.
func (p listPage) body(t *testing.T) []byte {
	t.Helper()
	return plainBody(t, 4, p.next, len(p.list), plainNumbers(p.list))
}

// padded lays zeros behind b up to a body's length.
func padded(t *testing.T, b []byte) []byte {
	t.Helper()
	if len(b) > 4092 {
		t.Fatalf("a body of %d bytes", len(b))
	}
	return append(b, make([]byte, 4092-len(b))...)
}

// fromHex is a body written as the chapter's examples are.
func fromHex(t *testing.T, text string) []byte {
	t.Helper()
	b, err := hex.DecodeString(strings.ReplaceAll(text, " ", ""))
	if err != nil {
		t.Fatal(err)
	}
	return padded(t, b)
}

// plainError goes through the chapter's errors one after the other.
func (p dataPage) plainError() api.Errno {
	if p.next < 0 || p.next == 1 || p.next > 524286 {
		return api.ErrKid
	}
	if len(p.data) < 1 || len(p.data) > 4085 {
		return api.ErrData
	}
	if p.next != 0 && len(p.data) != 4085 {
		return api.ErrData
	}
	return api.OK
}

// plainError goes through the chapter's errors one after the other.
func (p listPage) plainError() api.Errno {
	if p.next < 0 || p.next == 1 || p.next > 524286 {
		return api.ErrKid
	}
	if len(p.list) > 1021 || p.next != 0 && len(p.list) != 1021 {
		return api.ErrList
	}
	ahead := 1
	for _, no := range p.list {
		if no <= ahead || no > 524286 {
			return api.ErrList
		}
		ahead = no
	}
	return api.OK
}

// plainRead reads a number of n bytes.
func plainRead(b []byte, n int) int {
	x := 0
	for i := n - 1; i >= 0; i-- {
		x = 256*x + int(b[i])
	}
	return x
}

// plainData reads a body strictly as a page of data, asking at every place for what must stand there; it lays out nothing.
func plainData(body []byte) (dataPage, bool) {
	if len(body) != 4092 || body[0] != 3 {
		return dataPage{}, false
	}
	n := plainRead(body[5:], 2)
	if n > 4085 || bytes.Count(body[7+n:], []byte{0}) != 4085-n {
		return dataPage{}, false
	}
	p := dataPage{plainRead(body[1:], 4), bytes.Clone(body[7 : 7+n])}
	return p, p.plainError() == api.OK
}

// plainList reads a body strictly as a page of frees.
func plainList(body []byte) (listPage, bool) {
	if len(body) != 4092 || body[0] != 4 {
		return listPage{}, false
	}
	n := plainRead(body[5:], 2)
	if n > 1021 || bytes.Count(body[7+4*n:], []byte{0}) != 4085-4*n {
		return listPage{}, false
	}
	p := listPage{next: plainRead(body[1:], 4)}
	for i := range n {
		p.list = append(p.list, plainRead(body[7+4*i:], 4))
	}
	return p, p.plainError() == api.OK
}

// noise answers one number behind the other, always the same ones.
func noise(seed uint64) func(n int) int {
	return func(n int) int {
		seed = seed*6364136223846793005 + 1442695040888963407
		return int((seed >> 33) % uint64(n))
	}
}

// anyData are n bytes of noise, many of them 0.
func anyData(next func(int) int, n int) []byte {
	b := make([]byte, n)
	for i := range b {
		b[i] = byte(next(256) * next(2))
	}
	return b
}

// anyList are n numbers of noise that rise.
func anyList(next func(int) int, n int) []int {
	l := make([]int, 0, n)
	no := 1
	for i := range n {
		// So many numbers are left that must have room above this one.
		room := (524286 - no) / (n - i)
		no += 1 + next(min(room, []int{1, 2, 300, room}[next(4)]))
		l = append(l, no)
	}
	return l
}

// goodNexts are nexts that may be, above 0.
func goodNexts() []int { return []int{2, 3, 7, 255, 256, 65535, 65536, 524285, 524286} }

// badNexts are nexts that may not be; some of them would be good ones in 4 bytes, or in 2.
func badNexts() []int {
	return []int{math.MinInt, -1 << 32, -524286, -2, -1, 1, 524287, 524288, 1<<31 - 1, 1 << 31, 1<<32 - 1, 1 << 32, 1<<32 + 2, 1<<32 + 7, 1 << 62, math.MaxInt}
}

// likelyData are pages of data that may be, with the edges that the chapter names.
func likelyData() []dataPage {
	var l []dataPage
	for _, n := range []int{1, 2, 3, 255, 256, 257, 512, 513, 4083, 4084, 4085} {
		l = append(l, dataPage{0, someBytes(n)}, dataPage{0, make([]byte, n)}, dataPage{0, bytes.Repeat([]byte{255}, n)})
	}
	for _, next := range goodNexts() {
		l = append(l, dataPage{next, someBytes(4085)}, dataPage{next, make([]byte, 4085)})
	}
	next := noise(6)
	for range 20 {
		l = append(l, dataPage{0, anyData(next, 1+next(4085))}, dataPage{2 + next(524285), anyData(next, 4085)})
	}
	return append(l, dataPage{0, []byte("abc")}, dataPage{0, []byte("abc\x00")}, dataPage{0, []byte("\x00abc")})
}

// likelyLists are pages of frees that may be, with the edges that the chapter names.
func likelyLists() []listPage {
	l := []listPage{
		{0, nil},
		{0, []int{2}},
		{0, []int{524286}},
		{0, []int{2, 524286}},
		{0, []int{2, 5, 300}},
		{0, []int{255, 256, 257, 65535, 65536, 65537, 524285, 524286}},
	}
	for _, n := range []int{1, 2, 3, 255, 256, 257, 1019, 1020, 1021} {
		l = append(l, listPage{0, someNumbers(2, n)}, listPage{0, someNumbers(524287-n, n)})
	}
	for _, next := range goodNexts() {
		l = append(l, listPage{next, someNumbers(2, 1021)}, listPage{next, someNumbers(524287-1021, 1021)})
	}
	next := noise(66)
	for range 20 {
		l = append(l, listPage{0, anyList(next, next(1022))}, listPage{2 + next(524285), anyList(next, 1021)})
	}
	return l
}
