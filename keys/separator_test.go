package keys_test

import (
	"bytes"
	"testing"

	"coppice/api"
	"coppice/keys"
)

func wantSeparator(t *testing.T, a, b, want []byte) {
	t.Helper()
	s, err := keys.Separator(a, b)
	if err != api.OK || !bytes.Equal(s, want) {
		t.Errorf("Separator(%q, %q): %q, error %d, want %q", a, b, s, err, want)
	}
}

func wantOrder(t *testing.T, a, b []byte) {
	t.Helper()
	s, err := keys.Separator(a, b)
	if err != api.ErrOrder || len(s) != 0 {
		t.Errorf("Separator(%q, %q): %q, error %d, want none and ErrOrder", a, b, s, err)
	}
}

func TestP3_3Examples(t *testing.T) {
	for _, c := range [][3]string{
		{"rain", "raise", "rais"}, {"ab", "abc", "abc"}, {"", "x", "x"},
		{"ab", "abcdef", "abc"}, {"", "xyz", "x"}, {"a", "b", "b"}, {"a", "bbb", "b"}, {"azz", "b", "b"},
		{"", "\x00", "\x00"}, {"a", "a\x00\x00", "a\x00"}, {"\x7fz", "\x80a", "\x80"}, {"k\x00\xff", "k\x01\x00", "k\x01"},
	} {
		wantSeparator(t, []byte(c[0]), []byte(c[1]), []byte(c[2]))
	}
	wantSeparator(t, nil, []byte("xy"), []byte("x"))
}

func TestP3_3NotAhead(t *testing.T) {
	for _, c := range [][2]string{{"b", "a"}, {"a", "a"}, {"", ""}, {"x", ""}, {"ab", "a"}, {"a\x00", "a"}, {"\x80", "\x7f"}, {"raise", "rain"}, {"raise", "raise"}} {
		wantOrder(t, []byte(c[0]), []byte(c[1]))
	}
	wantOrder(t, nil, nil)
	wantOrder(t, nil, []byte{})
	wantOrder(t, []byte{0}, nil)
	// Room is no byte: with what lies behind its end b would stand behind a.
	wantOrder(t, []byte("abc"), []byte("abcd")[:3])
	long := noise(5, 70000)
	wantOrder(t, long, bytes.Clone(long))
	wantOrder(t, long, long[:69999])
}

func TestP3_3AllShort(t *testing.T) {
	all := allUpTo(3, edges)
	for _, a := range all {
		for _, b := range all {
			if plainCompare(a, b) < 0 {
				wantSeparator(t, a, b, b[:plainCommon(a, b)+1])
			} else {
				wantOrder(t, a, b)
			}
		}
	}
}

func TestP3_3LongOnes(t *testing.T) {
	for _, n := range []int{255, 256, 70000} {
		b := noise(6, n)
		for _, at := range []int{0, 1, 100, n - 2, n - 1} {
			b[at] |= 1
			a := bytes.Clone(b)
			a[at]--
			wantSeparator(t, a, b, b[:at+1])
			wantSeparator(t, b[:at], b, b[:at+1])
			wantOrder(t, b, a)
			wantOrder(t, b, b[:at])
		}
	}
}

func TestP3_7StandsBetween(t *testing.T) {
	all := allUpTo(3, edges)
	for _, a := range all {
		for _, b := range all {
			s, err := keys.Separator(a, b)
			if err != api.OK {
				continue
			}
			if keys.Compare(a, s) != -1 || keys.Compare(s, b) > 0 || len(s) > len(b) {
				t.Errorf("the separator of %q and %q is %q", a, b, s)
			}
		}
	}
}

func TestP3_7AValidKey(t *testing.T) {
	b := noise(7, api.MaxKey)
	for n := 1; n <= api.MaxKey; n++ {
		for _, a := range [][]byte{nil, b[:n/2], b[:n-1]} {
			s, err := keys.Separator(a, b[:n])
			if err != api.OK || !keys.Valid(b[:n]) || !keys.Valid(s) {
				t.Errorf("the separator of %d and %d bytes has %d bytes, error %d", len(a), n, len(s), err)
			}
		}
	}
}

// TestP3_7NoShorterOne: of all strings of fewer bytes, every byte taken, none stands between.
func TestP3_7NoShorterOne(t *testing.T) {
	every := make([]byte, 256)
	for i := range every {
		every[i] = byte(i)
	}
	shorter := allUpTo(1, every)
	few := allUpTo(2, edges)
	for _, a := range few {
		for _, b := range few {
			checkNoShorter(t, a, b, shorter)
		}
	}
	few = allUpTo(3, []byte{0, 127, 255})
	shorter = allUpTo(2, edges)
	for _, a := range few {
		for _, b := range few {
			checkNoShorter(t, a, b, shorter)
		}
	}
}

func checkNoShorter(t *testing.T, a, b []byte, strings [][]byte) {
	t.Helper()
	s, err := keys.Separator(a, b)
	if err != api.OK {
		return
	}
	for _, x := range strings {
		if len(x) < len(s) && plainCompare(a, x) < 0 && plainCompare(x, b) <= 0 {
			t.Errorf("the separator of %q and %q is %q, and %q would do", a, b, s, x)
		}
	}
}
