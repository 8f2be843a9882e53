package script_test

import (
	"bytes"
	"encoding/hex"
	"fmt"
	"math/big"
	"regexp"
	"slices"
	"strings"
	"testing"

	"coppice/api"
	"coppice/script"
)

// noise tells numbers from 0 on, below the one it is given; the same ones for the same seed.
func noise(seed uint64) func(n int) int {
	return func(n int) int {
		seed = seed*6364136223846793005 + 1442695040888963407
		return int((seed >> 33) % uint64(n))
	}
}

// fill is n bytes, of all kinds.
func fill(n, seed int) []byte {
	b := make([]byte, n)
	for i := range b {
		b[i] = byte(i*7 + i>>8 + seed)
	}
	return b
}

// sameOp tells whether two steps are the same, nil and empty being the same.
func sameOp(x, y api.Op) bool {
	return x.Kind == y.Kind && x.A == y.A && x.B == y.B && x.C == y.C && bytes.Equal(x.Key, y.Key) && bytes.Equal(x.Value, y.Value) && bytes.Equal(x.Hi, y.Hi) && slices.Equal(x.Fates, y.Fates)
}

// sameScript tells whether two scripts are the same.
func sameScript(x, y api.Script) bool {
	return x.Cap == y.Cap && slices.EqualFunc(x.Ops, y.Ops, sameOp)
}

// shown is a text as it may stand in a message.
func shown(text string) string {
	if len(text) > 200 {
		return fmt.Sprintf("%.100q .. %q (%d bytes)", text, text[len(text)-50:], len(text))
	}
	return fmt.Sprintf("%q", text)
}

// told is a script as it may stand in a message.
func told(s api.Script) string {
	text := fmt.Sprintf("%+v", s)
	return text[:min(len(text), 500)]
}

// parseIs asks what Parse answers.
func parseIs(t *testing.T, what, text string, s api.Script, line int, err api.Errno) {
	t.Helper()
	if got, at, e := script.Parse(text); !sameScript(got, s) || at != line || e != err {
		t.Errorf("%s: Parse(%s) is %s, line %d, %d, not %s, line %d, %d", what, shown(text), told(got), at, e, told(s), line, err)
	}
}

// refused asks whether Parse tells a fault.
func refused(t *testing.T, what, text string, line int, err api.Errno) {
	t.Helper()
	parseIs(t, what, text, api.Script{}, line, err)
}

// printIs asks what Print answers.
func printIs(t *testing.T, what string, s api.Script, text string, err api.Errno) {
	t.Helper()
	if got, e := script.Print(s); got != text || e != err {
		t.Errorf("%s: Print(%s) is %s, %d, not %s, %d", what, told(s), shown(got), e, shown(text), err)
	}
}

// plainRow is a row of the chapter's table.
type plainRow struct {
	kind   int
	word   string
	fields []string
}

// plainRows is the chapter's table.
var plainRows = []plainRow{
	{1, "format", nil},
	{2, "open", []string{"A"}},
	{3, "put", []string{"Key", "Value"}},
	{4, "delete", []string{"Key"}},
	{5, "get", []string{"Key"}},
	{6, "scan", []string{"Key", "Hi", "A"}},
	{7, "commit", nil},
	{8, "rollback", nil},
	{9, "view", nil},
	{10, "read", []string{"A", "Key"}},
	{11, "range", []string{"A", "Key", "Hi", "B"}},
	{12, "nth", []string{"A", "B"}},
	{13, "rank", []string{"A", "Key"}},
	{14, "close", []string{"A"}},
	{15, "arm", []string{"A"}},
	{16, "crash", []string{"Fates"}},
	{17, "rot", []string{"A", "B", "C"}},
	{18, "check", nil},
	{19, "hands", []string{"A", "B"}},
	{20, "state", nil},
	{21, "dump", nil},
	{22, "compact", []string{"A"}},
}

var (
	numberWord = regexp.MustCompile(`^(0|-?[1-9][0-9]*)$`)
	hexWord    = regexp.MustCompile(`^([0-9a-f][0-9a-f])+$`)
)

// plainNumber is a number as the chapter's words say.
func plainNumber(word string) (int, bool) {
	n, is := new(big.Int).SetString(word, 10)
	if !numberWord.MatchString(word) || !is || n.CmpAbs(big.NewInt(2147483647)) > 0 {
		return 0, false
	}
	return int(n.Int64()), true
}

// plainFates are the fates of a step.
func plainFates(words []string) ([]api.Fate, api.Errno) {
	var l []api.Fate
	for _, word := range words {
		switch {
		case word == "l":
			l = append(l, api.Fate{Kind: 0})
		case word == "k":
			l = append(l, api.Fate{Kind: 1})
		case word[0] == 't':
			n, is := plainNumber(word[1:])
			if !is {
				return nil, 232
			}
			l = append(l, api.Fate{Kind: 2, At: n})
		default:
			return nil, 231
		}
	}
	return l, 0
}

// plainField lays the word of a field into a step.
func plainField(op *api.Op, field, word string) api.Errno {
	if len(field) > 1 { // bytes
		b, _ := hex.DecodeString(word)
		if word != "-" && !hexWord.MatchString(word) {
			return 201
		}
		switch field {
		case "Key":
			op.Key = b
		case "Value":
			op.Value = b
		case "Hi":
			op.Hi = b
		}
		return 0
	}
	n, is := plainNumber(word)
	if !is {
		return 232
	}
	switch field {
	case "A":
		op.A = n
	case "B":
		op.B = n
	case "C":
		op.C = n
	}
	return 0
}

// plainStep reads a line of a step.
func plainStep(words []string) (op api.Op, err api.Errno) {
	i := slices.IndexFunc(plainRows, func(r plainRow) bool { return r.word == words[0] })
	if i < 0 {
		return api.Op{}, 231
	}
	r := plainRows[i]
	op.Kind = r.kind
	if r.word == "crash" {
		op.Fates, err = plainFates(words[1:])
		return op, err
	}
	if len(words)-1 != len(r.fields) {
		return api.Op{}, 233
	}
	for i, field := range r.fields {
		if err = plainField(&op, field, words[i+1]); err != 0 {
			return api.Op{}, err
		}
	}
	return op, 0
}

// plainLines are the lines of a text, each less its newline byte.
func plainLines(text string) []string {
	lines := strings.Split(text, "\n")
	if lines[len(lines)-1] == "" {
		lines = lines[:len(lines)-1]
	}
	return lines
}

// plainWords are the words of a line, gone through byte by byte.
func plainWords(line string) []string {
	var words []string
	begin := 0
	for i := range len(line) + 1 {
		if i < len(line) && line[i] != 0x20 && line[i] != 0x09 && line[i] != 0x23 {
			continue
		}
		if i > begin {
			words = append(words, line[begin:i])
		}
		begin = i + 1
		if i < len(line) && line[i] == 0x23 {
			break
		}
	}
	return words
}

// plainFirst reads the first line that has words.
func plainFirst(words []string) (int, api.Errno) {
	if words[0] != "coppice" {
		return 0, 230
	}
	if len(words) != 2 {
		return 0, 233
	}
	n, is := plainNumber(words[1])
	if !is {
		return 0, 232
	}
	return n, 0
}

// plainParse is Parse as the chapter's words say.
func plainParse(text string) (api.Script, int, api.Errno) {
	if len(text) > 1048576 {
		return api.Script{}, 0, 234
	}
	var s api.Script
	began := false
	for i, line := range plainLines(text) {
		words := plainWords(line)
		if len(words) == 0 {
			continue
		}
		var err api.Errno
		var op api.Op
		if !began {
			s.Cap, err = plainFirst(words)
		} else if len(s.Ops) >= 2000 {
			err = 234
		} else {
			op, err = plainStep(words)
			s.Ops = append(s.Ops, op)
		}
		began = true
		if err != 0 {
			return api.Script{}, i + 1, err
		}
	}
	if !began {
		return api.Script{}, 0, 230
	}
	return s, 0, 0
}

// asPlain asks whether Parse answers what the chapter's words say, and tells the error.
func asPlain(t *testing.T, text string) api.Errno {
	t.Helper()
	s, line, err := plainParse(text)
	parseIs(t, "plain", text, s, line, err)
	return err
}

// plainFar tells whether a number may not stand in a script.
func plainFar(n int) bool { return n < -2147483647 || n > 2147483647 }

// plainOp is the line of a step, or its fault, as the chapter's words say.
func plainOp(op api.Op) (string, api.Errno) {
	if op.Kind < 1 || op.Kind > 22 {
		return "", 231
	}
	r := plainRows[op.Kind-1]
	uses := func(field string) bool { return slices.Contains(r.fields, field) }
	numbers := map[string]int{"A": op.A, "B": op.B, "C": op.C}
	lists := map[string][]byte{"Key": op.Key, "Value": op.Value, "Hi": op.Hi}
	for field, n := range numbers {
		if !uses(field) && n != 0 {
			return "", 244
		}
	}
	for field, b := range lists {
		if !uses(field) && len(b) > 0 {
			return "", 244
		}
	}
	if !uses("Fates") && len(op.Fates) > 0 {
		return "", 244
	}
	words := []string{r.word}
	for _, field := range r.fields {
		if n, is := numbers[field]; is {
			if plainFar(n) {
				return "", 232
			}
			words = append(words, fmt.Sprint(n))
		}
		if b, is := lists[field]; is && len(b) == 0 {
			words = append(words, "-")
		} else if is {
			words = append(words, fmt.Sprintf("%x", b))
		}
	}
	for _, f := range op.Fates {
		if f.Kind < 0 || f.Kind > 2 {
			return "", 231
		}
		if f.Kind < 2 && f.At != 0 {
			return "", 244
		}
		if plainFar(f.At) {
			return "", 232
		}
		words = append(words, []string{"l", "k", fmt.Sprintf("t%d", f.At)}[f.Kind])
	}
	return strings.Join(words, " ") + "\n", 0
}

// plainPrint is Print as the chapter's words say.
func plainPrint(s api.Script) (string, api.Errno) {
	if plainFar(s.Cap) {
		return "", 232
	}
	if len(s.Ops) > 2000 {
		return "", 234
	}
	text := fmt.Sprintf("coppice %d\n", s.Cap)
	for _, op := range s.Ops {
		line, err := plainOp(op)
		if err != 0 {
			return "", err
		}
		text += line
	}
	if len(text) > 1048576 {
		return "", 234
	}
	return text, 0
}

// asPlainPrint asks whether Print answers what the chapter's words say, and tells the error.
func asPlainPrint(t *testing.T, s api.Script) api.Errno {
	t.Helper()
	text, err := plainPrint(s)
	printIs(t, "plain", s, text, err)
	return err
}
