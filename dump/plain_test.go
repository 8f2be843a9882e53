package dump_test

import (
	"bytes"
	"encoding/hex"
	"fmt"
	"math/big"
	"regexp"
	"slices"
	"strings"
	"testing"

	"coppice/api"
	"coppice/dump"
)

// noise tells numbers from 0 on, below the one it is given; the same ones for the same seed.
func noise(seed uint64) func(n int) int {
	return func(n int) int {
		seed = seed*6364136223846793005 + 1442695040888963407
		return int((seed >> 33) % uint64(n))
	}
}

// fill is a string of n bytes, of all kinds.
func fill(n, seed int) string {
	b := make([]byte, n)
	for i := range b {
		b[i] = byte(i*7 + i>>8 + seed)
	}
	return string(b)
}

func pair(key, value string) api.Pair { return api.Pair{Key: []byte(key), Value: []byte(value)} }

// samePairs tells whether two lists have the same pairs.
func samePairs(a, b []api.Pair) bool {
	return slices.EqualFunc(a, b, func(x, y api.Pair) bool {
		return bytes.Equal(x.Key, y.Key) && bytes.Equal(x.Value, y.Value)
	})
}

// somePairs are pairs by noise whose keys rise: few different bytes in the keys, so that one often begins another.
func somePairs(next func(int) int, most int) []api.Pair {
	m := map[string]string{}
	for range next(most + 1) {
		key := make([]byte, 1+next(3))
		for i := range key {
			key[i] = []byte{0, 1, 'a', 0x7f, 0x80, 0xff}[next(6)]
		}
		m[string(key)] = fill([]int{0, 0, 1, 2, 3, 9}[next(6)], next(256))
	}
	return pairsOf(m)
}

// pairsOf are the pairs of a map, by rising keys.
func pairsOf(m map[string]string) []api.Pair {
	var l []api.Pair
	for key, value := range m {
		l = append(l, pair(key, value))
	}
	slices.SortFunc(l, func(x, y api.Pair) int { return strings.Compare(string(x.Key), string(y.Key)) })
	return l
}

// shown is a text as it may stand in a message.
func shown(text string) string {
	if len(text) > 200 {
		return fmt.Sprintf("%.100q .. %q (%d bytes)", text, text[len(text)-50:], len(text))
	}
	return fmt.Sprintf("%q", text)
}

// hexIs asks whether Hex and Unhex take bytes and a text for one another.
func hexIs(t *testing.T, b []byte, text string) {
	t.Helper()
	if got := dump.Hex(b); got != text {
		t.Errorf("Hex(%x) is %s, not %s", b, shown(got), shown(text))
	}
	if got, err := dump.Unhex(text); err != api.OK || !bytes.Equal(got, b) {
		t.Errorf("Unhex(%s) is %x, %d, not %x", shown(text), got, err, b)
	}
}

// noHex asks whether Unhex refuses a text.
func noHex(t *testing.T, text string) {
	t.Helper()
	if b, err := dump.Unhex(text); err != api.ErrHex || len(b) != 0 {
		t.Errorf("Unhex(%s) is %x, %d, not ErrHex", shown(text), b, err)
	}
}

// textIs asks what Text answers.
func textIs(t *testing.T, what string, pairs []api.Pair, text string, err api.Errno) {
	t.Helper()
	if got, e := dump.Text(pairs); got != text || e != err {
		t.Errorf("%s: Text is %s, %d, not %s, %d", what, shown(got), e, shown(text), err)
	}
}

// parseIs asks what Parse answers.
func parseIs(t *testing.T, what, text string, pairs []api.Pair, line int, err api.Errno) {
	t.Helper()
	if l, at, e := dump.Parse(text); !samePairs(l, pairs) || at != line || e != err {
		t.Errorf("%s: Parse(%s) is %d pairs, line %d, %d, not %d pairs, line %d, %d", what, shown(text), len(l), at, e, len(pairs), line, err)
	}
}

// refused asks whether Parse tells a fault.
func refused(t *testing.T, what, text string, line int, err api.Errno) {
	t.Helper()
	parseIs(t, what, text, nil, line, err)
}

// plainHex is Hex as the chapter's words say.
func plainHex(b []byte) string {
	if len(b) == 0 {
		return "-"
	}
	return hex.EncodeToString(b)
}

// plainText is the text of pairs whose keys rise.
func plainText(pairs []api.Pair) string {
	text := fmt.Sprintf("coppice %d\n", len(pairs))
	for _, p := range pairs {
		text += plainHex(p.Key) + " " + plainHex(p.Value) + "\n"
	}
	return text
}

// plainBytes is Unhex as the chapter's words say, with the sizes that may be.
func plainBytes(text string, least, most int) ([]byte, api.Errno) {
	b, wrong := hex.DecodeString(strings.TrimPrefix(text, "-"))
	if wrong != nil || plainHex(b) != text {
		return nil, api.ErrHex
	}
	if len(b) < least || len(b) > most {
		return nil, api.ErrSize
	}
	return b, api.OK
}

var (
	firstLine = regexp.MustCompile(`^coppice (0|[1-9][0-9]*)\n$`)
	pairLine  = regexp.MustCompile(`^([^ \n]+) ([^ \n]+)\n$`)
)

// plainPair judges the line of a pair, with its newline byte.
func plainPair(line string, ahead []byte) (api.Pair, api.Errno) {
	parts := pairLine.FindStringSubmatch(line)
	if parts == nil {
		return api.Pair{}, api.ErrText
	}
	key, err := plainBytes(parts[1], 1, 255)
	if err != api.OK {
		return api.Pair{}, err
	}
	value, err := plainBytes(parts[2], 0, 262144)
	if err != api.OK {
		return api.Pair{}, err
	}
	if ahead != nil && string(key) <= string(ahead) {
		return api.Pair{}, api.ErrOrder
	}
	return api.Pair{Key: key, Value: value}, api.OK
}

// plainParse is Parse as the chapter's words say: all lines are laid out at first, the last one perhaps with no newline byte.
func plainParse(text string) ([]api.Pair, int, api.Errno) {
	lines := strings.SplitAfter(text, "\n")
	if lines[len(lines)-1] == "" {
		lines = lines[:len(lines)-1]
	}
	says := big.NewInt(0)
	var pairs []api.Pair
	var ahead []byte
	for i, line := range lines {
		if i == 0 {
			parts := firstLine.FindStringSubmatch(line)
			if parts == nil {
				return nil, 1, api.ErrText
			}
			says.SetString(parts[1], 10)
			if says.Cmp(big.NewInt(2147483647)) > 0 {
				return nil, 1, api.ErrText
			}
			continue
		}
		if !strings.HasSuffix(line, "\n") || says.Cmp(big.NewInt(int64(i))) < 0 {
			return nil, i + 1, api.ErrText
		}
		p, err := plainPair(line, ahead)
		if err != api.OK {
			return nil, i + 1, err
		}
		pairs, ahead = append(pairs, p), p.Key
	}
	if len(lines) == 0 || says.Cmp(big.NewInt(int64(len(lines)-1))) > 0 {
		return nil, len(lines) + 1, api.ErrText
	}
	return pairs, 0, api.OK
}

// asPlain asks whether Parse answers what the chapter's words say, and tells the error.
func asPlain(t *testing.T, text string) api.Errno {
	t.Helper()
	pairs, line, err := plainParse(text)
	parseIs(t, "plain", text, pairs, line, err)
	return err
}
