package keys_test

import (
	"bytes"
	"slices"
	"testing"

	"coppice/keys"
)

// texts are strings as lists of bytes.
func texts(all ...string) [][]byte {
	l := make([][]byte, 0, len(all))
	for _, s := range all {
		l = append(l, []byte(s))
	}
	return l
}

// plainCommonAll counts the places that every string has, and at which all have one byte.
func plainCommonAll(l [][]byte) int {
	if len(l) == 0 {
		return 0
	}
	for n := range l[0] {
		for _, s := range l {
			if n >= len(s) || s[n] != l[0][n] {
				return n
			}
		}
	}
	return len(l[0])
}

func TestP3_2Common(t *testing.T) {
	for _, c := range []struct {
		a, b string
		want int
	}{
		{"abc", "abd", 2}, {"abc", "ab", 2}, {"", "x", 0}, {"x", "", 0}, {"", "", 0},
		{"abc", "abc", 3}, {"abc", "xbc", 0}, {"axc", "ayc", 1}, {"a\x00", "a", 1}, {"\xff\x80", "\xff\x00", 1},
	} {
		if got := keys.Common([]byte(c.a), []byte(c.b)); got != c.want {
			t.Errorf("Common(%q, %q): %d, want %d", c.a, c.b, got, c.want)
		}
	}
	if keys.Common(nil, nil) != 0 || keys.Common(nil, []byte{0}) != 0 || keys.Common([]byte{0}, nil) != 0 {
		t.Error("nil has something in common")
	}
}

func TestP3_2CommonOfAllShort(t *testing.T) {
	all := allUpTo(3, edges)
	for _, a := range all {
		for _, b := range all {
			if got, want := keys.Common(a, b), plainCommon(a, b); got != want {
				t.Errorf("Common(%q, %q): %d, want %d", a, b, got, want)
			}
		}
	}
}

func TestP3_2CommonOfLongOnes(t *testing.T) {
	for _, n := range []int{7, 8, 9, 255, 256, 4096} {
		a := noise(3, n)
		for at := range n {
			b := bytes.Clone(a)
			b[at] ^= 128
			if got := keys.Common(a, b); got != at {
				t.Errorf("Common of %d bytes that differ at %d: %d", n, at, got)
			}
			if x, y := keys.Common(a, a[:at]), keys.Common(a[:at], a); x != at || y != at {
				t.Errorf("Common of %d bytes and their first %d: %d and %d", n, at, x, y)
			}
		}
		if got := keys.Common(a, bytes.Clone(a)); got != n {
			t.Errorf("Common of %d bytes and the same: %d", n, got)
		}
	}
}

// TestP3_2RoomIsNotCommon: what lies behind a string's end is no part of it.
func TestP3_2RoomIsNotCommon(t *testing.T) {
	whole := []byte("raise")
	a, b := whole[:3], bytes.Clone(whole)[:4]
	if got := keys.Common(a, b); got != 3 {
		t.Errorf("Common(%q, %q), with room: %d", a, b, got)
	}
	if got := keys.CommonAll([][]byte{whole, b, a}); got != 3 {
		t.Errorf("CommonAll, with room: %d", got)
	}
	if keys.Compare(a, b) != -1 || keys.Compare(b, a) != 1 {
		t.Error("Compare looks behind the end")
	}
	strings := texts("rain", "raise", "x")
	if got := keys.CommonAll(strings[:2]); got != 3 {
		t.Errorf("CommonAll of a list with room: %d", got)
	}
}

func TestP3_2CommonAll(t *testing.T) {
	for _, c := range []struct {
		l    [][]byte
		want int
	}{
		{texts("rain", "raise", "ran"), 2}, {texts("rain"), 4}, {texts(), 0}, {nil, 0},
		{texts(""), 0}, {[][]byte{nil}, 0}, {texts("", ""), 0}, {texts("ab", "", "ab"), 0}, {texts("", "ab"), 0},
		{texts("rain", "rain", "rain"), 4}, {texts("rain", "ra"), 2}, {texts("ra", "rain"), 2},
		{texts("ran", "rain", "raise"), 2}, {texts("abcd", "abxx", "abcd"), 2}, {texts("abcd", "abcd", "x"), 0},
		{texts("abxx", "a", "abxx"), 1}, {texts("axc", "ayc", "azc"), 1}, {texts("\x80a", "\x80b"), 1},
	} {
		if got := keys.CommonAll(c.l); got != c.want {
			t.Errorf("CommonAll(%q): %d, want %d", c.l, got, c.want)
		}
	}
}

func TestP3_2CommonAllOfAnyThree(t *testing.T) {
	all := allUpTo(3, []byte{0, 128, 255})
	for _, a := range all {
		for _, b := range all {
			for _, c := range all {
				l := [][]byte{a, b, c}
				if got, want := keys.CommonAll(l), plainCommonAll(l); got != want {
					t.Fatalf("CommonAll(%q): %d, want %d", l, got, want)
				}
			}
		}
	}
}

// TestP3_2EveryOneCounts: one string among many has less in common with the others, wherever it stands.
func TestP3_2EveryOneCounts(t *testing.T) {
	for _, n := range []int{1, 2, 3, 200} {
		for at := range n {
			l := slices.Repeat([][]byte{noise(4, 255)}, n)
			l[at] = l[at][:100]
			if got := keys.CommonAll(l); got != 100 {
				t.Errorf("CommonAll of %d, the one at %d shorter: %d", n, at, got)
			}
		}
	}
}

func TestP3_8FirstAndLast(t *testing.T) {
	all := allUpTo(3, edges)
	slices.SortFunc(all, plainCompare)
	for i := range all {
		for j := i; j < len(all); j++ {
			if got, want := keys.CommonAll(all[i:j+1]), keys.Common(all[i], all[j]); got != want {
				t.Errorf("from %q to %q in order: CommonAll %d, Common %d", all[i], all[j], got, want)
			}
		}
	}
}

// TestP3_8WhatDoesNotRise: the first and the last one do not tell where the list does not rise.
func TestP3_8WhatDoesNotRise(t *testing.T) {
	for _, l := range [][][]byte{texts("rain", "ran", "raise"), texts("rain", "x", "rain"), texts("raise", "", "rain"), texts("rais", "rai", "raise")} {
		got, want := keys.CommonAll(l), plainCommonAll(l)
		if got != want || got >= keys.Common(l[0], l[2]) {
			t.Errorf("CommonAll(%q): %d, want %d", l, got, want)
		}
	}
}

func TestP3_8BetweenTwoOthers(t *testing.T) {
	all := allUpTo(3, []byte{0, 127, 128, 255})
	slices.SortFunc(all, keys.Compare)
	for i, a := range all {
		for k := i; k < len(all); k++ {
			n := keys.Common(a, all[k])
			for _, b := range all[i : k+1] {
				if keys.Common(a, b) < n || keys.Common(b, all[k]) < n {
					t.Fatalf("%q stands between %q and %q, and has less in common", b, a, all[k])
				}
			}
		}
	}
}
