package dump_test

import (
	"slices"
	"strings"
	"testing"

	"coppice/api"
	"coppice/dump"
)

// TestP20_1Examples: the chapter's.
func TestP20_1Examples(t *testing.T) {
	hexIs(t, nil, "-")
	hexIs(t, []byte{}, "-")
	hexIs(t, []byte{0x00, 0x0a, 0xff}, "000aff")
	for _, text := range []string{"", "0", "0A", "--", "0g"} {
		noHex(t, text)
	}
}

// TestP20_1Bytes: each byte, and each two of them.
func TestP20_1Bytes(t *testing.T) {
	const low = "0123456789abcdef"
	for x := range 256 {
		one := string([]byte{low[x/16], low[x%16]})
		hexIs(t, []byte{byte(x)}, one)
		for y := range 256 {
			hexIs(t, []byte{byte(x), byte(y)}, one+string([]byte{low[y/16], low[y%16]}))
		}
	}
}

// TestP20_1Long: strings of any length, longer ones than a value too: Hex and Unhex have no limit.
func TestP20_1Long(t *testing.T) {
	for _, n := range []int{1, 2, 3, 255, 256, 4096, 262144, 262145, 1 << 20} {
		b := []byte(fill(n, n))
		hexIs(t, b, plainHex(b))
		noHex(t, plainHex(b)+"0")
		noHex(t, plainHex(b)[1:])
		noHex(t, plainHex(b)+"-")
		noHex(t, plainHex(b)+"0x")
		noHex(t, "-"+plainHex(b)+"0")
	}
}

// TestP20_1Short: of all texts of two bytes and fewer just those of one byte's digits are taken, and the text of none.
func TestP20_1Short(t *testing.T) {
	digit := func(x int) bool { return strings.IndexByte("0123456789abcdef", byte(x)) >= 0 }
	noHex(t, "")
	taken := 0
	for x := range 256 {
		if x != '-' {
			noHex(t, string([]byte{byte(x)}))
		}
		for y := range 256 {
			text := string([]byte{byte(x), byte(y)})
			if !digit(x) || !digit(y) {
				noHex(t, text)
			} else if b, err := dump.Unhex(text); err == api.OK && len(b) == 1 {
				taken++
			}
		}
	}
	if taken != 256 {
		t.Errorf("%d texts of two bytes are taken", taken)
	}
}

// TestP20_1Characters: at every place of a text every byte that is no digit, and characters of several bytes, of which some look like digits.
func TestP20_1Characters(t *testing.T) {
	for _, wrong := range []string{
		"A", "F", "g", "G", "/", ":", "`", "x", "-", " ", "\n", "\r", "\t", "\x00", "\x7f", "\x80", "\xff", "\xc3",
		"é", "０", "１", "ａ", "٠", "а", "\ufffd", "\ufffe", "€", "😀", "\xed\xa0\x80", "\xf4\x90\x80\x80", "\xc0\xb0", "AA", "0A", "--", "0x", "éé", "😀😀",
	} {
		for _, right := range []string{"", "0", "01", "0af", "09af", "09afff", "000000000000000"} {
			for i := range len(right) + 1 {
				texts := []string{right[:i] + wrong + right[i:], right[:i] + wrong + right[min(i+len(wrong), len(right)):]}
				for _, text := range texts {
					if text != "-" {
						noHex(t, text)
					}
				}
			}
		}
	}
}

// TestP20_1Noise: texts by noise, as the chapter's words say.
func TestP20_1Noise(t *testing.T) {
	next := noise(201)
	taken := 0
	for range 100000 {
		text := make([]byte, next(9))
		for i := range text {
			text[i] = "0123456789abcdef0123456789abcdefA-g"[next(35)]
		}
		b, want := plainBytes(string(text), 0, 9)
		got, err := dump.Unhex(string(text))
		if err != want || !slices.Equal(got, b) {
			t.Errorf("Unhex(%q) is %x, %d, not %x, %d", text, got, err, b, want)
		}
		if err == api.OK {
			taken++
			hexIs(t, got, string(text))
		}
	}
	if taken < 1000 || taken > 99000 {
		t.Errorf("%d texts are taken", taken)
	}
}
