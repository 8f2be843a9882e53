package dump_test

import (
	"strings"
	"testing"

	"coppice/api"
	"coppice/dump"
)

// someTexts are lists of pairs, by noise and by hand, that have a text.
func someTexts(seed uint64, n int) [][]api.Pair {
	next := noise(seed)
	all := [][]api.Pair{nil, {pair("\x00", "")}, {pair("-", "-")}, {pair(" ", "\n")}, {pair("coppice", " 1\n")}, {pair("a", ""), pair("a\x00", ""), pair("b", "\x00")}}
	for range n {
		all = append(all, somePairs(next, 11))
	}
	return all
}

// TestP20_6There: what Text makes of pairs Parse takes back, and no two lists have one text.
func TestP20_6There(t *testing.T) {
	texts := map[string][]api.Pair{}
	for _, l := range append(someTexts(206, 3000), []api.Pair{pair(fill(255, 9), fill(262144, 9))}) {
		text, err := dump.Text(l)
		if err != api.OK {
			t.Fatalf("Text: %d", err)
		}
		parseIs(t, "there and back", text, l, 0, api.OK)
		if other, is := texts[text]; is && !samePairs(l, other) {
			t.Errorf("two lists have the text %s", shown(text))
		}
		texts[text] = l
	}
}

// TestP20_6Back: what Parse takes is the text of what it answers.
func TestP20_6Back(t *testing.T) {
	next := noise(2060)
	taken := 0
	for range 30000 {
		text := changed(plainText(somePairs(next, 3)), next)
		if l, _, err := dump.Parse(text); err == api.OK {
			taken++
			textIs(t, "back and there", l, text, api.OK)
		}
	}
	if taken < 1000 {
		t.Errorf("only %d texts are taken", taken)
	}
}

// TestP20_8Shorter: nothing that begins a text is one.
func TestP20_8Shorter(t *testing.T) {
	for _, l := range someTexts(208, 400) {
		text := plainText(l)
		for i := range text {
			line := 1 + strings.Count(text[:i], "\n")
			refused(t, "cut off", text[:i], line, api.ErrText)
		}
	}
}

// TestP20_9Byte: every byte of a text turned into every other one.
func TestP20_9Byte(t *testing.T) {
	t.Parallel()
	taken := 0
	for _, l := range someTexts(209, 60) {
		text := plainText(l)
		for i := range len(text) {
			for by := 1; by < 256; by++ {
				b := []byte(text)
				b[i] ^= byte(by)
				other, line, err := dump.Parse(string(b))
				if err == api.OK {
					taken++
				}
				if err == api.OK && samePairs(other, l) || (err == api.OK) != (line == 0) {
					t.Errorf("byte %d of %s turned by %d: line %d, %d", i, shown(text), by, line, err)
				}
			}
		}
	}
	if taken == 0 {
		t.Error("no byte may be turned")
	}
}
