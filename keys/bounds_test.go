package keys_test

import (
	"testing"

	"coppice/keys"
)

func TestP3_4Valid(t *testing.T) {
	for n := range 600 {
		want := n >= 1 && n <= 255
		if keys.Valid(make([]byte, n)) != want || keys.Valid(noise(8, n)) != want {
			t.Errorf("Valid of %d bytes: not %v", n, want)
		}
	}
	for _, n := range []int{256 + 1, 65536, 65537, 262144} {
		if keys.Valid(make([]byte, n)) {
			t.Errorf("Valid of %d bytes", n)
		}
	}
	if keys.Valid(nil) || keys.Valid(make([]byte, 0, 255)) {
		t.Error("no byte is a key")
	}
	if !keys.Valid(make([]byte, 255, 256)) || keys.Valid(make([]byte, 256, 512)) {
		t.Error("Valid hangs on the room")
	}
}

func TestP3_4Within(t *testing.T) {
	for _, c := range []struct {
		key, lo, hi string
		want        bool
	}{
		{"b", "a", "c", true}, {"c", "a", "c", false}, {"z", "a", "", true}, {"a", "a", "", true},
		{"a", "a", "c", true}, {"a", "b", "", false}, {"a", "b", "c", false}, {"d", "a", "c", false},
		{"", "", "", true}, {"x", "", "", true}, {"", "", "a", true}, {"", "a", "", false}, {"", "a", "b", false},
		{"a", "a", "a", false}, {"b", "c", "a", false}, {"a", "c", "b", false}, {"d", "c", "b", false},
		{"a\x00", "a", "a\x01", true}, {"a", "a", "a\x00", true}, {"\x80", "\x7f", "\x81", true}, {"\xff\xff", "\xff", "", true},
	} {
		if got := keys.Within([]byte(c.key), []byte(c.lo), []byte(c.hi)); got != c.want {
			t.Errorf("Within(%q, %q, %q): %v", c.key, c.lo, c.hi, got)
		}
	}
}

func TestP3_4WithinNil(t *testing.T) {
	a := []byte("a")
	if !keys.Within(a, nil, nil) || !keys.Within(nil, nil, nil) || !keys.Within(nil, nil, a) || !keys.Within(a, a, make([]byte, 0, 5)) {
		t.Error("nil is not the empty string")
	}
	if keys.Within(nil, a, nil) {
		t.Error("the empty string is ahead of a")
	}
}

func TestP3_4WithinAllShort(t *testing.T) {
	all := allUpTo(3, []byte{0, 128, 255})
	for _, key := range all {
		for _, lo := range all {
			for _, hi := range all {
				want := plainCompare(key, lo) >= 0 && (len(hi) == 0 || plainCompare(key, hi) < 0)
				if keys.Within(key, lo, hi) != want {
					t.Fatalf("Within(%q, %q, %q): not %v", key, lo, hi, want)
				}
			}
		}
	}
}

// TestP3_4AnyLength: what is no key is ordered all the same.
func TestP3_4AnyLength(t *testing.T) {
	long := noise(9, 70000)
	if !keys.Within(long, long[:69999], nil) || keys.Within(long[:69999], long, nil) || keys.Within(long, nil, long) || !keys.Within(long[:69999], nil, long) {
		t.Error("strings of 70000 bytes are not in order")
	}
}
