package script

import (
	"strings"

	"coppice/api"
	"coppice/dump"
)

// The fields of a step, a letter each: the numbers A, B and C, the bytes Key, Value and Hi, and Fates.
const allFields = "ABCKVHF"

// anyFates are the fields of a step that has as many words as it has fates.
const anyFates = "F"

// step is the word of a kind of step, and the fields that it uses, in the order of their words.
type step struct {
	word, fields string
}

// steps has a row for each kind. No kind is 0, so the row there has no word.
var steps = [...]step{
	api.OpFormat:   {"format", ""},
	api.OpOpen:     {"open", "A"},
	api.OpPut:      {"put", "KV"},
	api.OpDelete:   {"delete", "K"},
	api.OpGet:      {"get", "K"},
	api.OpScan:     {"scan", "KHA"},
	api.OpCommit:   {"commit", ""},
	api.OpRollback: {"rollback", ""},
	api.OpView:     {"view", ""},
	api.OpRead:     {"read", "AK"},
	api.OpRange:    {"range", "AKHB"},
	api.OpNth:      {"nth", "AB"},
	api.OpRank:     {"rank", "AK"},
	api.OpClose:    {"close", "A"},
	api.OpArm:      {"arm", "A"},
	api.OpCrash:    {"crash", anyFates},
	api.OpRot:      {"rot", "ABC"},
	api.OpCheck:    {"check", ""},
	api.OpHands:    {"hands", "AB"},
	api.OpState:    {"state", ""},
	api.OpDump:     {"dump", ""},
	api.OpCompact:  {"compact", "A"},
}

// kindOf is the kind of step that has a word; 0, if none has.
func kindOf(word string) int {
	for kind := range steps {
		if steps[kind].word == word {
			return kind
		}
	}
	return 0
}

// numberAt is the number of a step that a letter stands for; none, if it stands for something else.
func numberAt(op *api.Op, letter rune) *int {
	switch letter {
	case 'A':
		return &op.A
	case 'B':
		return &op.B
	case 'C':
		return &op.C
	}
	return nil
}

// bytesAt are the bytes of a step that a letter stands for; none, if it stands for something else.
func bytesAt(op *api.Op, letter rune) *[]byte {
	switch letter {
	case 'K':
		return &op.Key
	case 'V':
		return &op.Value
	case 'H':
		return &op.Hi
	}
	return nil
}

// isZero tells whether the field that a letter stands for holds nothing.
func isZero(op api.Op, letter rune) bool {
	if n := numberAt(&op, letter); n != nil {
		return *n == 0
	}
	if b := bytesAt(&op, letter); b != nil {
		return len(*b) == 0
	}
	return len(op.Fates) == 0
}

// readStep reads the words of a step.
func readStep(words []string) (api.Op, api.Errno) {
	op := api.Op{Kind: kindOf(words[0])}
	if op.Kind == 0 {
		return api.Op{}, api.ErrWord
	}
	fields, words := steps[op.Kind].fields, words[1:]
	if fields == anyFates {
		fields = strings.Repeat(anyFates, len(words))
	}
	if len(words) != len(fields) {
		return api.Op{}, api.ErrWords
	}
	for i, letter := range fields {
		if err := readField(&op, letter, words[i]); err != api.OK {
			return api.Op{}, err
		}
	}
	return op, api.OK
}

// readField reads the word of the field that a letter stands for.
func readField(op *api.Op, letter rune, word string) (err api.Errno) {
	if n := numberAt(op, letter); n != nil {
		*n, err = readNumber(word)
		return err
	}
	if b := bytesAt(op, letter); b != nil {
		*b, err = dump.Unhex(word)
		return err
	}
	fate, err := readFate(word)
	op.Fates = append(op.Fates, fate)
	return err
}
