package branch_test

import (
	"strings"
	"testing"

	"coppice/branch"
)

func TestP5_1Examples(t *testing.T) {
	for _, c := range []struct {
		seps [][]byte
		want int
	}{
		{nil, 13},
		{[][]byte{}, 13},
		{list("m"), 25},
		{list("ma", "mb"), 38},
		{list("a", "b"), 37},
	} {
		if n := branch.Size(c.seps); n != c.want {
			t.Errorf("Size(%q) = %d, not %d", c.seps, n, c.want)
		}
	}
}

// One separator is all prefix: 12, the length's bytes and the string; then 10, and 1 for the suffix of no byte.
func TestP5_1OneSeparator(t *testing.T) {
	for length, want := range map[int]int{0: 24, 1: 25, 126: 150, 127: 151, 128: 153, 129: 154, 255: 280, 256: 281, 16383: 16408, 16384: 16410, 100000: 100026} {
		if n := branch.Size(list(xs(length))); n != want {
			t.Errorf("Size of a separator of %d bytes = %d, not %d", length, n, want)
		}
	}
	if n := branch.Size([][]byte{nil}); n != 24 {
		t.Errorf("Size of a separator that is nil = %d, not 24", n)
	}
}

func TestP5_1Suffixes(t *testing.T) {
	for length, want := range map[int]int{0: 35, 1: 36, 126: 161, 127: 162, 128: 164, 255: 291, 256: 292, 16383: 16419, 16384: 16421} {
		// The empty one leaves nothing in common, so the other one's suffix is all of it.
		if n := branch.Size(list("", xs(length))); n != want {
			t.Errorf("Size with a suffix of %d bytes = %d, not %d", length, n, want)
		}
	}
}

func TestP5_1Prefixes(t *testing.T) {
	for p, want := range map[int]int{0: 37, 1: 38, 126: 163, 127: 164, 128: 166, 254: 292, 255: 293, 300: 338, 16383: 16421, 16384: 16423} {
		if n := branch.Size(list(xs(p)+"a", xs(p)+"b")); n != want {
			t.Errorf("Size of two separators with %d bytes in common = %d, not %d", p, n, want)
		}
	}
}

// A first one that begins all others is the prefix, and its suffix has no byte.
func TestP5_1TheFirstBeginsAllOthers(t *testing.T) {
	for p, want := range map[int]int{1: 14 + 11 + 12 + 12, 127: 140 + 11 + 12 + 12, 128: 142 + 11 + 12 + 12, 255: 269 + 11 + 12 + 12} {
		if n := branch.Size(list(xs(p), xs(p)+"a", xs(p)+"b")); n != want {
			t.Errorf("Size where a separator of %d bytes begins the others = %d, not %d", p, n, want)
		}
	}
}

func TestP5_1AnyOrder(t *testing.T) {
	for _, c := range []struct {
		seps string
		want int
	}{
		{"b a", 37}, {"a a", 36}, {"a a a", 47}, {"b a b", 49},
		{"abc ab abd", 50}, {"ab abc abd", 50}, {"abd abc ab", 50},
	} {
		if n := branch.Size(list(strings.Fields(c.seps)...)); n != c.want {
			t.Errorf("Size(%s) = %d, not %d", c.seps, n, c.want)
		}
	}
}

func TestP5_1AnyList(t *testing.T) {
	next := noise(51)
	for round := range 3000 {
		var seps [][]byte
		head := string(anyString(next, 0, 130))
		for range next(9) {
			seps = append(seps, []byte(head+string(anyString(next, 0, 300))))
		}
		if n, want := branch.Size(seps), plainSize(seps); n != want {
			t.Fatalf("round %d: Size of %d separators = %d, not %d", round, len(seps), n, want)
		}
	}
}

func TestP5_1Branches(t *testing.T) {
	for _, w := range likely() {
		if n, want := branch.Size(w.seps), plainSize(w.seps); n != want {
			t.Errorf("Size of %v = %d, not %d", w, n, want)
		}
	}
}

func TestP5_1ManySeparators(t *testing.T) {
	seps := make([][]byte, 200000)
	for i := range seps {
		seps[i] = []byte("abc")[:2+i%2]
	}
	if n, want := branch.Size(seps), 15+100000*11+100000*12; n != want {
		t.Errorf("Size of 200000 separators = %d, not %d", n, want)
	}
}
