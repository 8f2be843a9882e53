package world

import (
	"strconv"
	"strings"

	"coppice/api"
	"coppice/dump"
	"coppice/script"
)

// noWord stands for the word of a kind that is none.
const noWord = "?"

// Show is an event as one line.
func Show(e api.Event) string {
	words := []string{stepWord(e.Kind)}
	if e.Code != api.OK {
		words = append(words, "error", number(int(e.Code)))
	}
	if hasPage(e.Kind) {
		words = append(words, "page", number(e.A))
	}
	if e.Code == api.OK {
		words = append(words, toldWords(e)...)
	}
	return strings.Join(words, " ")
}

// number is a number as a word.
func number(n int) string { return strconv.Itoa(n) }

// stepWord is the word of a kind.
func stepWord(kind int) string {
	if word := script.Word(kind); word != "" {
		return word
	}
	return noWord
}

// hasPage tells whether an event of a kind has a page, with an error too.
func hasPage(kind int) bool {
	switch kind {
	case api.OpOpen, api.OpCheck, api.OpHands, api.OpDump, api.OpCompact:
		return true
	}
	return false
}

// toldWords are the words of an event that only one without an error has.
func toldWords(e api.Event) []string {
	switch e.Kind {
	case api.OpDelete, api.OpClose:
		return []string{foundWord(e.Found)}
	case api.OpGet, api.OpRead:
		return valueWords(e)
	case api.OpScan, api.OpRange, api.OpNth:
		return pairWords(e.Pairs)
	case api.OpView:
		return []string{number(e.A), "version", number(e.B)}
	case api.OpRank:
		return []string{number(e.A)}
	case api.OpCrash:
		return []string{"pended", number(e.A), "pages", number(e.B)}
	case api.OpCompact:
		return []string{"pages", number(e.B)}
	case api.OpState:
		return append(stateWords(e.State), "need", number(e.A), "room", number(e.B))
	case api.OpDump:
		return []string{"bytes", number(len(e.Text))}
	}
	return nil
}

// foundWord tells whether something was there.
func foundWord(found bool) string {
	if found {
		return "found"
	}
	return "none"
}

// valueWords tell a value, if there is one.
func valueWords(e api.Event) []string {
	words := []string{foundWord(e.Found)}
	if e.Found {
		words = append(words, dump.Hex(e.Value))
	}
	return words
}

// pairWords tell pairs, a word each.
func pairWords(pairs []api.Pair) []string {
	var words []string
	for _, p := range pairs {
		words = append(words, dump.Hex(p.Key)+"="+dump.Hex(p.Value))
	}
	return words
}

// stateWords tell how a store stands.
func stateWords(s api.State) []string {
	changed := "same"
	if s.Changed {
		changed = "changed"
	}
	return []string{
		"version", number(s.Version),
		"count", number(s.Count),
		"free", number(s.Free),
		"keys", number(s.Keys),
		"height", number(s.Height),
		changed,
	}
}
