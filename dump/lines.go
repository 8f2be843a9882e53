package dump

import (
	"strings"

	"coppice/api"
	"coppice/keys"
)

// judge tells the first fault of pairs that are to be a text.
func judge(pairs []api.Pair) api.Errno {
	var ahead []byte
	for _, p := range pairs {
		if !keys.Valid(p.Key) || len(p.Value) > api.MaxValue {
			return api.ErrSize
		}
		if !behind(p.Key, ahead) {
			return api.ErrOrder
		}
		ahead = p.Key
	}
	return api.OK
}

// behind tells whether a key stands behind the one ahead of it. The first key has none ahead of it, and every key stands behind the empty string.
func behind(key, ahead []byte) bool { return keys.Compare(key, ahead) > 0 }

// count reads a first line, less its newline byte: how many pairs it says.
func count(line string) (int, bool) {
	text, is := strings.CutPrefix(line, title)
	if !is {
		return 0, false
	}
	return number(text)
}

// number reads a number in its only form: no zero ahead of other digits.
func number(text string) (int, bool) {
	if text == "" || text[0] == '0' && text != "0" {
		return 0, false
	}
	n := 0
	for _, r := range text {
		digit := strings.IndexRune(digits[:10], r)
		if digit < 0 {
			return 0, false
		}
		n = 10*n + digit
		if n > maxPairs {
			return 0, false
		}
	}
	return n, true
}

// parsePair reads the line of a pair, less its newline byte; ahead is the key of the line ahead of it.
func parsePair(line string, ahead []byte) (api.Pair, api.Errno) {
	left, right, _ := strings.Cut(line, " ")
	if left == "" || right == "" || strings.Contains(right, " ") {
		return api.Pair{}, api.ErrText
	}
	key, err := sized(left, 1, api.MaxKey)
	if err != api.OK {
		return api.Pair{}, err
	}
	value, err := sized(right, 0, api.MaxValue)
	if err != api.OK {
		return api.Pair{}, err
	}
	if !behind(key, ahead) {
		return api.Pair{}, api.ErrOrder
	}
	return api.Pair{Key: key, Value: value}, api.OK
}

// sized reads bytes of which there must be least to most.
func sized(text string, least, most int) ([]byte, api.Errno) {
	b, err := Unhex(text)
	if err == api.OK && (len(b) < least || len(b) > most) {
		return nil, api.ErrSize
	}
	return b, err
}
