package script

import (
	"strconv"
	"strings"

	"coppice/api"
	"coppice/dump"
)

// judge tells the first fault of a script that is to be a text, but for the text's length.
func judge(s api.Script) api.Errno {
	if !isNumber(s.Cap) {
		return api.ErrNumber
	}
	if len(s.Ops) > api.MaxSteps {
		return api.ErrMany
	}
	for _, op := range s.Ops {
		if err := judgeStep(op); err != api.OK {
			return err
		}
	}
	return api.OK
}

// judgeStep tells the first fault of a step.
func judgeStep(op api.Op) api.Errno {
	if Word(op.Kind) == "" {
		return api.ErrWord
	}
	fields := steps[op.Kind].fields
	for _, letter := range allFields {
		if !strings.ContainsRune(fields, letter) && !isZero(op, letter) {
			return api.ErrField
		}
	}
	for _, letter := range fields {
		if n := numberAt(&op, letter); n != nil && !isNumber(*n) {
			return api.ErrNumber
		}
	}
	for _, f := range op.Fates {
		if err := judgeFate(f); err != api.OK {
			return err
		}
	}
	return api.OK
}

// judgeFate tells the first fault of a fate.
func judgeFate(f api.Fate) api.Errno {
	switch f.Kind {
	case api.Lost, api.Kept:
		if f.At != 0 {
			return api.ErrField
		}
	case api.Torn:
		if !isNumber(f.At) {
			return api.ErrNumber
		}
	default:
		return api.ErrWord
	}
	return api.OK
}

// stepWords are the words of a step that was found without fault.
func stepWords(op api.Op) []string {
	words := []string{Word(op.Kind)}
	for _, letter := range steps[op.Kind].fields {
		if n := numberAt(&op, letter); n != nil {
			words = append(words, strconv.Itoa(*n))
		} else if b := bytesAt(&op, letter); b != nil {
			words = append(words, dump.Hex(*b))
		}
	}
	for _, f := range op.Fates {
		words = append(words, fateWord(f))
	}
	return words
}

// leastSize is a size that the line of a step has at least: each byte and each fate takes one or more.
func leastSize(op api.Op) int {
	return len(op.Key) + len(op.Value) + len(op.Hi) + len(op.Fates)
}
