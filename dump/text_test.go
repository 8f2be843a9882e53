package dump_test

import (
	"strings"
	"testing"

	"coppice/api"
	"coppice/dump"
)

// TestP20_2Examples: the chapter's.
func TestP20_2Examples(t *testing.T) {
	textIs(t, "none", nil, "coppice 0\n", api.OK)
	textIs(t, "an empty list", []api.Pair{}, "coppice 0\n", api.OK)
	textIs(t, "two", []api.Pair{pair("a", "\x01"), pair("b", "")}, "coppice 2\n61 01\n62 -\n", api.OK)
	textIs(t, "falling", []api.Pair{pair("b", "\x01"), pair("a", "\x01")}, "", api.ErrOrder)
	textIs(t, "twice", []api.Pair{pair("a", "\x01"), pair("a", "\x02")}, "", api.ErrOrder)
	textIs(t, "no key", []api.Pair{pair("", "\x01")}, "", api.ErrSize)
	textIs(t, "falling and too long", []api.Pair{pair("b", "\x01"), pair("a", fill(262145, 1))}, "", api.ErrSize)
}

// TestP20_2Sizes: the least and the greatest key and value that may be, and those beside them, at the first place and behind others.
func TestP20_2Sizes(t *testing.T) {
	for _, first := range [][]api.Pair{nil, {pair("\x00", "x")}, {pair("\x00", ""), pair("\x00\x00", "y")}} {
		is := func(what, key, value string, err api.Errno) {
			t.Helper()
			l := append(first[:len(first):len(first)], pair(key, value))
			text := ""
			if err == api.OK {
				text = plainText(l)
			}
			textIs(t, what, l, text, err)
		}
		is("a key of 1 byte", "k", "v", api.OK)
		is("a key of 255 bytes", strings.Repeat("k", 255), "v", api.OK)
		is("a key of 256 bytes", strings.Repeat("k", 256), "v", api.ErrSize)
		is("a key of many bytes", strings.Repeat("k", 70000), "v", api.ErrSize)
		is("a key of none", "", "v", api.ErrSize)
		is("no value", "k", "", api.OK)
		is("a value in its leaf", "k", fill(512, 3), api.OK)
		is("a value in a chain", "k", fill(513, 3), api.OK)
		is("a value of 262144 bytes", "k", fill(262144, 3), api.OK)
		is("a value of 262145 bytes", "k", fill(262145, 3), api.ErrSize)
		is("a value of many bytes", "k", fill(1<<20, 3), api.ErrSize)
		is("neither may be", "", fill(262145, 3), api.ErrSize)
	}
}

// TestP20_2Order: the first fault counts, and of one pair the size ahead of the order.
func TestP20_2Order(t *testing.T) {
	long := strings.Repeat("a", 256)
	is := func(what string, want api.Errno, names ...string) {
		t.Helper()
		var l []api.Pair
		for _, name := range names {
			l = append(l, pair(name, "v"))
		}
		if text, err := dump.Text(l); err != want || text != "" {
			t.Errorf("%s: %s, %d, not %d", what, shown(text), err, want)
		}
	}
	is("the order, then a size", api.ErrOrder, "b", "a", "")
	is("the order, then a size", api.ErrOrder, "b", "b", long)
	is("a size, then the order", api.ErrSize, "b", "", "a")
	is("a size, then the order", api.ErrSize, "b", long, "a")
	is("a size behind the order of one pair", api.ErrSize, "b", "c", "")
	is("no key, twice", api.ErrSize, "", "")
	is("the order at the end", api.ErrOrder, "a", "b", "c", "d", "cc")
	is("not the one ahead, but the one ahead of that", api.ErrOrder, "c", "b", "d")
	is("one that begins another behind it", api.ErrOrder, "ab", "a")
	is("bytes are numbers from 0 to 255", api.ErrOrder, "\x80", "\x7f")
	is("bytes are numbers from 0 to 255", api.ErrOrder, "\xff", "\x00")
	is("a byte 0 more stands behind", api.ErrOrder, "a\x00", "a")
}

// TestP20_2Plain: rising pairs by noise have the text that the chapter's words say; two of them changed about have none.
func TestP20_2Plain(t *testing.T) {
	next := noise(202)
	for range 3000 {
		l := somePairs(next, 12)
		textIs(t, "rising", l, plainText(l), api.OK)
		if len(l) > 1 {
			i := next(len(l))
			k := (i + 1 + next(len(l)-1)) % len(l)
			l[i], l[k] = l[k], l[i]
			textIs(t, "changed about", l, "", api.ErrOrder)
			l[i] = l[k]
			textIs(t, "one twice", l, "", api.ErrOrder)
		}
	}
}

// TestP20_2Many: as many pairs as take numbers of several digits.
func TestP20_2Many(t *testing.T) {
	var l []api.Pair
	for i := range 1101 {
		for _, n := range []int{9, 10, 11, 99, 100, 101, 999, 1000, 1001, 1100} {
			if i == n {
				textIs(t, "many", l, plainText(l), api.OK)
				parseIs(t, "many", plainText(l), l, 0, api.OK)
			}
		}
		l = append(l, pair(string([]byte{byte(i >> 8), byte(i)}), fill(i%5, i)))
	}
}
