package keys_test

import (
	"bytes"
	"testing"

	"coppice/keys"
)

// edges are the bytes between which an order that takes them for signed numbers would go wrong.
var edges = []byte{0, 1, 127, 128, 255}

// allUpTo are all strings of at most n bytes of the alphabet, the shorter ones first.
func allUpTo(n int, alphabet []byte) [][]byte {
	all := [][]byte{{}}
	from := 0
	for range n {
		to := len(all)
		for _, s := range all[from:to] {
			for _, x := range alphabet {
				all = append(all, append(bytes.Clone(s), x))
			}
		}
		from = to
	}
	return all
}

// noise is n bytes that hang on the seed alone.
func noise(seed uint64, n int) []byte {
	b := make([]byte, n)
	for i := range b {
		seed = seed*6364136223846793005 + 1442695040888963407
		b[i] = byte(seed >> 56)
	}
	return b
}

// plainCommon counts by P3.2's own words.
func plainCommon(a, b []byte) int {
	n := 0
	for n < len(a) && n < len(b) && a[n] == b[n] {
		n++
	}
	return n
}

// plainCompare goes by P3.1's own words.
func plainCompare(a, b []byte) int {
	at := plainCommon(a, b)
	switch {
	case at < len(a) && at < len(b) && int(a[at]) < int(b[at]):
		return -1
	case at < len(a) && at < len(b):
		return 1
	case len(a) < len(b):
		return -1
	case len(a) > len(b):
		return 1
	}
	return 0
}

func TestP3_1Examples(t *testing.T) {
	for _, c := range []struct {
		a, b string
		want int
	}{
		{"ab", "abc", -1}, {"b", "abc", 1}, {"a", "a", 0},
		{"\x80", "\x7f", 1}, {"\x7f", "\x80", -1},
		{"", "", 0}, {"", "\x00", -1}, {"\x00", "", 1},
		{"a\xff", "b", -1}, {"a\x00", "a", 1}, {"\xff\xff", "\xff", 1},
	} {
		if got := keys.Compare([]byte(c.a), []byte(c.b)); got != c.want {
			t.Errorf("Compare(%q, %q): %d, want %d", c.a, c.b, got, c.want)
		}
	}
	if keys.Compare(nil, []byte{}) != 0 || keys.Compare([]byte{}, nil) != 0 || keys.Compare(nil, []byte{0}) != -1 || keys.Compare([]byte{0}, nil) != 1 {
		t.Error("nil is not the empty string")
	}
}

func TestP3_1AllShort(t *testing.T) {
	all := allUpTo(3, edges)
	for _, a := range all {
		for _, b := range all {
			if got, want := keys.Compare(a, b), plainCompare(a, b); got != want {
				t.Errorf("Compare(%q, %q): %d, want %d", a, b, got, want)
			}
		}
	}
}

func TestP3_1EveryByte(t *testing.T) {
	for x := range 256 {
		for y := range 256 {
			a, b := []byte{'k', byte(x), byte(y)}, []byte{'k', byte(y), byte(x)}
			if got, want := keys.Compare(a, b), plainCompare(a, b); got != want {
				t.Errorf("Compare(%q, %q): %d, want %d", a, b, got, want)
			}
		}
	}
}

// TestP3_1AtEveryPlace: one byte tells, wherever it is, and however the bytes behind it stand.
func TestP3_1AtEveryPlace(t *testing.T) {
	for _, n := range []int{1, 8, 9, 255, 256, 4096} {
		for at := range n {
			a, b := noise(1, n), noise(1, n)
			a[at], b[at] = 127, 128
			for i := at + 1; i < n; i++ {
				a[i], b[i] = 255, 0
			}
			if keys.Compare(a, b) != -1 || keys.Compare(b, a) != 1 {
				t.Errorf("%d bytes that differ at %d: %d and %d", n, at, keys.Compare(a, b), keys.Compare(b, a))
			}
			if keys.Compare(a[:at], b) != -1 || keys.Compare(b, a[:at]) != 1 {
				t.Errorf("%d bytes, and the first %d of them: not in order", n, at)
			}
		}
	}
}

func TestP3_6JustOneStandsAhead(t *testing.T) {
	all := allUpTo(3, edges)
	for _, a := range all {
		for _, b := range all {
			x, y := keys.Compare(a, b), keys.Compare(b, a)
			if same := bytes.Equal(a, b); same && (x != 0 || y != 0) || !same && (x*x != 1 || y != -x) {
				t.Errorf("%q and %q: %d, and turned about %d", a, b, x, y)
			}
		}
	}
}

func TestP3_6GoesOnFromOneToTheNext(t *testing.T) {
	all := allUpTo(3, []byte{0, 127, 128, 255})
	for _, a := range all {
		for _, b := range all {
			if keys.Compare(a, b) > 0 {
				continue
			}
			for _, c := range all {
				if keys.Compare(b, c) <= 0 && keys.Compare(a, c) != min(keys.Compare(a, b), keys.Compare(b, c)) {
					t.Fatalf("%q, %q, %q: the first to the last stand %d", a, b, c, keys.Compare(a, c))
				}
			}
		}
	}
}

func TestP3_6WhatFollowsTells(t *testing.T) {
	all := allUpTo(2, edges)
	for _, n := range []int{1, 7, 8, 254, 300} {
		beginning := noise(2, n)
		for _, a := range all {
			for _, b := range all {
				x, y := append(bytes.Clone(beginning), a...), append(bytes.Clone(beginning), b...)
				if got, want := keys.Compare(x, y), keys.Compare(a, b); got != want {
					t.Errorf("%q and %q behind %d bytes in common: %d, want %d", a, b, n, got, want)
				}
			}
		}
	}
}
