package script

import (
	"strconv"
	"strings"

	"coppice/api"
)

const (
	blanks    = " \t"     // the bytes between words
	silence   = "#"       // from here on a line says nothing
	maxNumber = 1<<31 - 1 // the greatest number; the least one is as far below 0

	lostWord = "l"
	keptWord = "k"
	tornWord = "t" // with the number of bytes right behind it
)

// said is what a line says: all that stands ahead of a remark.
func said(line string) string {
	line, _, _ = strings.Cut(line, silence)
	return line
}

// nextWord is the first word of what is left of a line, and what stands behind it; empty, if there is no word more.
func nextWord(line string) (string, string) {
	line = strings.TrimLeft(line, blanks)
	end := strings.IndexAny(line, blanks)
	if end < 0 {
		return line, ""
	}
	return line[:end], line[end:]
}

// readNumber reads a number.
func readNumber(word string) (int, api.Errno) {
	n, err := strconv.Atoi(word)
	// A number has one word only: the one that it is written with.
	if err != nil || !isNumber(n) || strconv.Itoa(n) != word {
		return 0, api.ErrNumber
	}
	return n, api.OK
}

// isNumber tells whether a number may stand in a script.
func isNumber(n int) bool { return -maxNumber <= n && n <= maxNumber }

// readFate reads a fate.
func readFate(word string) (api.Fate, api.Errno) {
	switch word {
	case lostWord:
		return api.Fate{Kind: api.Lost}, api.OK
	case keptWord:
		return api.Fate{Kind: api.Kept}, api.OK
	}
	number, torn := strings.CutPrefix(word, tornWord)
	if !torn {
		return api.Fate{}, api.ErrWord
	}
	at, err := readNumber(number)
	if err != api.OK {
		return api.Fate{}, err
	}
	return api.Fate{Kind: api.Torn, At: at}, api.OK
}

// fateWord is the word of a fate that may be.
func fateWord(f api.Fate) string {
	switch f.Kind {
	case api.Lost:
		return lostWord
	case api.Kept:
		return keptWord
	}
	return tornWord + strconv.Itoa(f.At)
}
