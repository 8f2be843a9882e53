package script_test

import (
	"fmt"
	"slices"
	"strings"
	"testing"

	"coppice/api"
)

// oneStep is the script of cap 9 and one step.
func oneStep(op api.Op) api.Script { return api.Script{Cap: 9, Ops: []api.Op{op}} }

// TestP23_1Examples: the chapter's.
func TestP23_1Examples(t *testing.T) {
	parseIs(t, "three steps", "coppice 9\nformat\nopen 4\nput 61 78", api.Script{Cap: 9, Ops: []api.Op{{Kind: api.OpFormat}, {Kind: api.OpOpen, A: 4}, {Kind: api.OpPut, Key: []byte("a"), Value: []byte("x")}}}, 0, api.OK)
	parseIs(t, "a cap below 0", "coppice -3", api.Script{Cap: -3}, 0, api.OK)
	parseIs(t, "no key, no end", "coppice 9\nscan - - -1 # all", oneStep(api.Op{Kind: api.OpScan, A: -1}), 0, api.OK)
	parseIs(t, "no fate", "coppice 9\ncrash", oneStep(api.Op{Kind: api.OpCrash}), 0, api.OK)
	parseIs(t, "fates", "coppice 9\ncrash l k t100 t-1", oneStep(api.Op{Kind: api.OpCrash, Fates: []api.Fate{{Kind: api.Lost}, {Kind: api.Kept}, {Kind: api.Torn, At: 100}, {Kind: api.Torn, At: -1}}}), 0, api.OK)
	for _, x := range []struct {
		text string
		line int
		err  api.Errno
	}{
		{"", 0, api.ErrScript},
		{"# so\n\n", 0, api.ErrScript},
		{"# so\n \n ", 0, api.ErrScript},
		{"format", 1, api.ErrScript},
		{"coppice", 1, api.ErrWords},
		{"coppice 09", 1, api.ErrNumber},
		{"coppice 9\n\nput 61", 3, api.ErrWords},
		{"coppice 9\nputs 61 78", 2, api.ErrWord},
		{"coppice 9\ncommit 1", 2, api.ErrWords},
		{"coppice 9\nput 6 7g", 2, api.ErrHex},
		{"coppice 9\nopen x", 2, api.ErrNumber},
		{"coppice 9\nscan - - -0", 2, api.ErrNumber},
		{"coppice 9\ncrash x", 2, api.ErrWord},
		{"coppice 9\ncrash t", 2, api.ErrNumber},
		{"coppice 9\ncrash kk", 2, api.ErrWord},
		{"coppice 9\nformat\nformat" + strings.Repeat("\nformat", 2000), 2002, api.ErrMany},
	} {
		refused(t, "an example", x.text, x.line, x.err)
	}
}

// TestP23_1Kinds: each kind of step has its word and its fields, in their order.
func TestP23_1Kinds(t *testing.T) {
	k, v, h := []byte("k"), []byte("vv"), []byte("hhh")
	steps := []struct {
		line string
		op   api.Op
	}{
		{"format", api.Op{Kind: api.OpFormat}},
		{"open 5", api.Op{Kind: api.OpOpen, A: 5}},
		{"put 6b 7676", api.Op{Kind: api.OpPut, Key: k, Value: v}},
		{"delete 6b", api.Op{Kind: api.OpDelete, Key: k}},
		{"get 6b", api.Op{Kind: api.OpGet, Key: k}},
		{"scan 6b 686868 5", api.Op{Kind: api.OpScan, Key: k, Hi: h, A: 5}},
		{"commit", api.Op{Kind: api.OpCommit}},
		{"rollback", api.Op{Kind: api.OpRollback}},
		{"view", api.Op{Kind: api.OpView}},
		{"read 5 6b", api.Op{Kind: api.OpRead, A: 5, Key: k}},
		{"range 5 6b 686868 7", api.Op{Kind: api.OpRange, A: 5, Key: k, Hi: h, B: 7}},
		{"nth 5 7", api.Op{Kind: api.OpNth, A: 5, B: 7}},
		{"rank 5 6b", api.Op{Kind: api.OpRank, A: 5, Key: k}},
		{"close 5", api.Op{Kind: api.OpClose, A: 5}},
		{"arm 5", api.Op{Kind: api.OpArm, A: 5}},
		{"crash k t9 l", api.Op{Kind: api.OpCrash, Fates: []api.Fate{{Kind: api.Kept}, {Kind: api.Torn, At: 9}, {Kind: api.Lost}}}},
		{"rot 5 7 8", api.Op{Kind: api.OpRot, A: 5, B: 7, C: 8}},
		{"check", api.Op{Kind: api.OpCheck}},
		{"hands 5 7", api.Op{Kind: api.OpHands, A: 5, B: 7}},
		{"state", api.Op{Kind: api.OpState}},
		{"dump", api.Op{Kind: api.OpDump}},
		{"compact 5", api.Op{Kind: api.OpCompact, A: 5}},
	}
	all := api.Script{Cap: 1}
	text := "coppice 1\n"
	for _, x := range steps {
		parseIs(t, "one step", "coppice 9\n"+x.line, oneStep(x.op), 0, api.OK)
		parseIs(t, "one step", "coppice 9\n"+x.line+"\n", oneStep(x.op), 0, api.OK)
		all.Ops, text = append(all.Ops, x.op), text+x.line+"\n"
	}
	parseIs(t, "all kinds", text, all, 0, api.OK)
}

// TestP23_1Words: a line that has not just the words that its kind asks for, whatever they are.
func TestP23_1Words(t *testing.T) {
	for _, r := range plainRows {
		for n := range 7 {
			for _, word := range []string{"1", "61", "-", "x", "l", "t"} {
				text := "coppice 9\nstate\n" + r.word + strings.Repeat(" "+word, n)
				if r.word != "crash" && n != len(r.fields) {
					refused(t, "words", text, 3, api.ErrWords)
					refused(t, "words", text+" # "+word+"\nstate\n", 3, api.ErrWords)
				} else {
					asPlain(t, text)
				}
			}
		}
	}
}

// TestP23_1NoStep: what is no step's word, with whatever behind it.
func TestP23_1NoStep(t *testing.T) {
	bad := []string{"coppice", "puts", "pu", "PUT", "Put", "put-", "put61", "-put", "put\r", "\vput", "put\x00", "\x00", "0", "1", "23", "-", "l", "k", "t", "t1", "é", "\xff", "put\u00a0", "\ufeffput", "formatopen", "op", "stat", "states", "rollbacks", "put=", strings.Repeat("put", 1000)}
	for _, r := range plainRows {
		bad = append(bad, r.word[1:], r.word[:len(r.word)-1], r.word+r.word, strings.ToUpper(r.word), r.word+".", "_"+r.word)
	}
	for _, word := range bad {
		for _, rest := range []string{"", " ", " 61", " 61 78", " x y z u v", "\n", "\nput 61 78\n", "\nput\n", " # put"} {
			refused(t, "no step", "coppice 9\n"+word+rest, 2, api.ErrWord)
			refused(t, "no step", "coppice 9\nformat\n\n"+word+rest, 4, api.ErrWord)
		}
	}
}

// TestP23_1First: what is no first line, with whatever behind it.
func TestP23_1First(t *testing.T) {
	for _, x := range []struct {
		err   api.Errno
		lines []string
	}{
		{api.ErrScript, []string{"format", "put 61 78", "Coppice 9", "COPPICE 9", "coppic 9", "coppices 9", "coppice9", "9 coppice", "9", "coppice\r 9", "\ufeffcoppice 9", "\vcoppice 9", "coppice\u00a09", "coppice\x00 9", "\xff", "x y z", "script 9", "coppice-9", "coppice,9"}},
		{api.ErrWords, []string{"coppice", "coppice ", "coppice 9 9", "coppice 9 x", "coppice x 9", "coppice 9 - ", "coppice x y", "coppice # 9", "coppice#9", "coppice coppice 9", "coppice 9 format", "coppice - 9"}},
		{api.ErrNumber, []string{"coppice coppice", "coppice x", "coppice -#1", "coppice 9\r", "coppice 9\x00", "coppice \v9", "coppice 9\u00a09"}},
	} {
		for _, line := range x.lines {
			for _, rest := range []string{"", "\n", "\nformat\n", "\ncoppice 9\n", "\nx", " \t", "# 9", " #\n"} {
				refused(t, "a first line", line+rest, 1, x.err)
				refused(t, "a first line that isn't the text's", "\n# \n \t\n"+line+rest, 4, x.err)
			}
		}
	}
	for i := range len("coppice") {
		if i > 0 {
			refused(t, "a first line cut short", "coppice 9"[:i], 1, api.ErrScript)
		}
	}
	refused(t, "two first lines", "coppice 9\ncoppice 9\n", 2, api.ErrWord)
}

// numberPlaces are lines with a number at the place of an N, and what is made of it.
func numberPlaces() map[string]func(n int) api.Op {
	k, h := []byte("k"), []byte("h")
	return map[string]func(n int) api.Op{
		"open N":         func(n int) api.Op { return api.Op{Kind: api.OpOpen, A: n} },
		"scan 6b 68 N":   func(n int) api.Op { return api.Op{Kind: api.OpScan, Key: k, Hi: h, A: n} },
		"read N 6b":      func(n int) api.Op { return api.Op{Kind: api.OpRead, A: n, Key: k} },
		"range N 6b - 5": func(n int) api.Op { return api.Op{Kind: api.OpRange, A: n, Key: k, B: 5} },
		"range 5 6b - N": func(n int) api.Op { return api.Op{Kind: api.OpRange, A: 5, Key: k, B: n} },
		"nth N 5":        func(n int) api.Op { return api.Op{Kind: api.OpNth, A: n, B: 5} },
		"nth 5 N":        func(n int) api.Op { return api.Op{Kind: api.OpNth, A: 5, B: n} },
		"rank N 6b":      func(n int) api.Op { return api.Op{Kind: api.OpRank, A: n, Key: k} },
		"close N":        func(n int) api.Op { return api.Op{Kind: api.OpClose, A: n} },
		"arm N":          func(n int) api.Op { return api.Op{Kind: api.OpArm, A: n} },
		"rot N 5 6":      func(n int) api.Op { return api.Op{Kind: api.OpRot, A: n, B: 5, C: 6} },
		"rot 5 N 6":      func(n int) api.Op { return api.Op{Kind: api.OpRot, A: 5, B: n, C: 6} },
		"rot 5 6 N":      func(n int) api.Op { return api.Op{Kind: api.OpRot, A: 5, B: 6, C: n} },
		"hands N 5":      func(n int) api.Op { return api.Op{Kind: api.OpHands, A: n, B: 5} },
		"hands 5 N":      func(n int) api.Op { return api.Op{Kind: api.OpHands, A: 5, B: n} },
		"compact N":      func(n int) api.Op { return api.Op{Kind: api.OpCompact, A: n} },
		"crash l tN k": func(n int) api.Op {
			return api.Op{Kind: api.OpCrash, Fates: []api.Fate{{Kind: api.Lost}, {Kind: api.Torn, At: n}, {Kind: api.Kept}}}
		},
	}
}

// TestP23_1Numbers: words that are numbers and words that are none, wherever one may stand.
func TestP23_1Numbers(t *testing.T) {
	for word, n := range goodNumbers() {
		parseIs(t, "a cap", "coppice "+word, api.Script{Cap: n}, 0, api.OK)
		for line, op := range numberPlaces() {
			parseIs(t, "a number", "coppice 9\n"+strings.Replace(line, "N", word, 1), oneStep(op(n)), 0, api.OK)
		}
	}
	for _, word := range badNumbers() {
		refused(t, "no cap", "coppice "+word, 1, api.ErrNumber)
		refused(t, "no cap", "\ncoppice "+word+"\nformat\n", 2, api.ErrNumber)
		for line := range numberPlaces() {
			refused(t, "no number", "coppice 9\nformat\n"+strings.Replace(line, "N", word, 1), 3, api.ErrNumber)
		}
	}
}

// bytesPlaces are lines with bytes at the place of an N, and what is made of them.
func bytesPlaces() map[string]func(b []byte) api.Op {
	k := []byte("k")
	return map[string]func(b []byte) api.Op{
		"put N 6b":       func(b []byte) api.Op { return api.Op{Kind: api.OpPut, Key: b, Value: k} },
		"put 6b N":       func(b []byte) api.Op { return api.Op{Kind: api.OpPut, Key: k, Value: b} },
		"delete N":       func(b []byte) api.Op { return api.Op{Kind: api.OpDelete, Key: b} },
		"get N":          func(b []byte) api.Op { return api.Op{Kind: api.OpGet, Key: b} },
		"scan N 6b 5":    func(b []byte) api.Op { return api.Op{Kind: api.OpScan, Key: b, Hi: k, A: 5} },
		"scan 6b N 5":    func(b []byte) api.Op { return api.Op{Kind: api.OpScan, Key: k, Hi: b, A: 5} },
		"read 5 N":       func(b []byte) api.Op { return api.Op{Kind: api.OpRead, A: 5, Key: b} },
		"range 5 N 6b 6": func(b []byte) api.Op { return api.Op{Kind: api.OpRange, A: 5, Key: b, Hi: k, B: 6} },
		"range 5 6b N 6": func(b []byte) api.Op { return api.Op{Kind: api.OpRange, A: 5, Key: k, Hi: b, B: 6} },
		"rank 5 N":       func(b []byte) api.Op { return api.Op{Kind: api.OpRank, A: 5, Key: b} },
	}
}

// TestP23_1Bytes: words that are bytes and words that are none, wherever they may stand. How many bytes a key may have the script doesn't ask.
func TestP23_1Bytes(t *testing.T) {
	for word, b := range goodHex() {
		for line, op := range bytesPlaces() {
			parseIs(t, "bytes", "coppice 9\n"+strings.Replace(line, "N", word, 1), oneStep(op([]byte(b))), 0, api.OK)
		}
	}
	for _, word := range badHex() {
		for line := range bytesPlaces() {
			refused(t, "no bytes", "coppice 9\n\n"+strings.Replace(line, "N", word, 1), 3, api.ErrHex)
		}
	}
}

// TestP23_1Fates: words that are fates, and words that are none, and which of several is told.
func TestP23_1Fates(t *testing.T) {
	crash := func(words string, err api.Errno, fates ...api.Fate) {
		t.Helper()
		if err != api.OK {
			refused(t, "no fate", "coppice 9\nstate\ncrash "+words, 3, err)
			refused(t, "no fate", "coppice 9\nstate\ncrash l k t7 "+words+" x t\nx", 3, err)
			return
		}
		parseIs(t, "fates", "coppice 9\ncrash "+words, oneStep(api.Op{Kind: api.OpCrash, Fates: fates}), 0, api.OK)
	}
	lost, kept := api.Fate{Kind: api.Lost}, api.Fate{Kind: api.Kept}
	crash("l", api.OK, lost)
	crash("k", api.OK, kept)
	crash("l l k l", api.OK, lost, lost, kept, lost)
	crash("t0", api.OK, api.Fate{Kind: api.Torn})
	crash("t4095 t4096 t4097", api.OK, api.Fate{Kind: api.Torn, At: 4095}, api.Fate{Kind: api.Torn, At: 4096}, api.Fate{Kind: api.Torn, At: 4097})
	for _, word := range []string{"x", "ll", "kk", "lk", "kl", "L", "K", "T", "T5", "l0", "k0", "l1", "-", "0", "1", "61", "5t", "-t5", "\xff", "\x00", "l\r", "k\r", "\vl", "é", "lost", "kept", "crash", "1l"} {
		crash(word, api.ErrWord)
	}
	for _, word := range []string{"t", "tt", "tt5", "tl", "tk", "torn", "t-", "t--1", "t+1", "t05", "t-0", "t5t", "t5l", "t0x5", "t2147483648", "t-2147483648", "t5\r", "t\xff", "t5\x00", "té", "t61a"} {
		crash(word, api.ErrNumber)
	}
	crash("t x", api.ErrNumber)
	crash("x t", api.ErrWord)
	crash("t 5", api.ErrNumber)
	for _, n := range []int{1, 2, 1999, 2000, 2001, 5000} {
		parseIs(t, "many fates", "coppice 9\ncrash"+strings.Repeat("\tk", n), oneStep(api.Op{Kind: api.OpCrash, Fates: slices.Repeat([]api.Fate{kept}, n)}), 0, api.OK)
	}
}

// TestP23_1Order: of the faults of one line the first one by the chapter's order is told, and of the faults of several lines the first line's.
func TestP23_1Order(t *testing.T) {
	for _, x := range []struct {
		line string
		err  api.Errno
	}{
		{"puts 6", api.ErrWord},
		{"put 6", api.ErrWords},
		{"put 6 x y", api.ErrWords},
		{"open x y", api.ErrWords},
		{"scan 6 6 x", api.ErrHex},
		{"scan - 6 x", api.ErrHex},
		{"scan - - x", api.ErrNumber},
		{"read x 6", api.ErrNumber},
		{"read 5 6", api.ErrHex},
		{"range x 6 6 x", api.ErrNumber},
		{"range 5 6 6 x", api.ErrHex},
		{"range 5 - 6 x", api.ErrHex},
		{"range 5 - - x", api.ErrNumber},
		{"rank - 6", api.ErrNumber},
		{"rank 5 5", api.ErrHex},
		{"crash x t", api.ErrWord},
		{"crash t x", api.ErrNumber},
		{"crash l k t x", api.ErrNumber},
	} {
		for _, behind := range []string{"", "\n", "\nx", "\nput 6 7", "\nopen x", "\nstate 1", "\ncrash t"} {
			refused(t, "order", "coppice 9\n# \n"+x.line+behind, 3, x.err)
		}
		refused(t, "the first line's", "coppice x\n"+x.line, 1, api.ErrNumber)
		refused(t, "the first line's", "coppice\n"+x.line, 1, api.ErrWords)
		refused(t, "the first line's", x.line+"\ncoppice 9", 1, api.ErrScript)
	}
}

// TestP23_1Lines: lines are counted from 1, those without words too; the last one needs no newline byte.
func TestP23_1Lines(t *testing.T) {
	quiet := []string{"", " ", "\t", " \t \t", "#", "# coppice 9", " # x", "\t#\t", "##", "#\xff\x00\r"}
	for n := range 6 {
		for _, line := range quiet {
			ahead := strings.Repeat(line+"\n", n)
			parseIs(t, "ahead of the first line", ahead+"coppice 9", api.Script{Cap: 9}, 0, api.OK)
			parseIs(t, "behind the first line", "coppice 9\n"+ahead, api.Script{Cap: 9}, 0, api.OK)
			parseIs(t, "ahead of a step", "coppice 9\n"+ahead+"view", oneStep(api.Op{Kind: api.OpView}), 0, api.OK)
			refused(t, "no word", ahead, 0, api.ErrScript)
			refused(t, "no word", ahead+line, 0, api.ErrScript)
			refused(t, "no script", ahead+"x", n+1, api.ErrScript)
			refused(t, "no step", ahead+"coppice 9\n"+ahead+"x", 2*n+2, api.ErrWord)
			refused(t, "no step", ahead+"coppice 9\n"+ahead+"view\n"+ahead+"x\n"+ahead, 3*n+3, api.ErrWord)
		}
	}
	parseIs(t, "a last line with a newline byte", "coppice 9\nview\n", oneStep(api.Op{Kind: api.OpView}), 0, api.OK)
	parseIs(t, "a last line with none", "coppice 9\nview", oneStep(api.Op{Kind: api.OpView}), 0, api.OK)
	refused(t, "a wrong last line with none", "coppice 9\nview 1", 2, api.ErrWords)
	refused(t, "a line with 0D at its end", "coppice 9\nview\r\n", 2, api.ErrWord)
	refused(t, "lines with 0D between them", "coppice 9\rview", 1, api.ErrNumber)
}

// TestP23_1Blanks: 20 and 09 stand between words, and no other byte does; a # ends what a line says, within a word too.
func TestP23_1Blanks(t *testing.T) {
	want := oneStep(api.Op{Kind: api.OpPut, Key: []byte("a"), Value: []byte("x")})
	for _, gap := range []string{" ", "\t", "  ", " \t", "\t ", "\t\t", strings.Repeat(" \t", 1000)} {
		parseIs(t, "between", "coppice"+gap+"9\nput"+gap+"61"+gap+"78", want, 0, api.OK)
		parseIs(t, "around", gap+"coppice 9"+gap+"\n"+gap+"put 61 78"+gap, want, 0, api.OK)
	}
	for c := range 256 {
		if c == ' ' || c == '\t' || c == '\n' || c == '#' {
			continue
		}
		gap := string([]byte{byte(c)})
		refused(t, "no gap", "coppice"+gap+"9", 1, api.ErrScript)
		refused(t, "no gap", "coppice 9\nput"+gap+"61 78", 2, api.ErrWord)
		refused(t, "no gap", "coppice 9\nput 61"+gap+"78", 2, api.ErrWords)
		refused(t, "a word of its own", "coppice 9\n"+gap, 2, api.ErrWord)
		refused(t, "a word of its own", "coppice 9\nview "+gap, 2, api.ErrWords)
		parseIs(t, "a remark", "coppice 9\nput 61 78#"+gap, want, 0, api.OK)
	}
	parseIs(t, "remarks", "coppice 9#\nput 61 78#79\n#put 61", want, 0, api.OK)
	refused(t, "the rest of a word", "coppice 9\nput 61 78 7#9", 2, api.ErrWords)
	refused(t, "half a byte", "coppice 9\nput 61 7#8", 2, api.ErrHex)
	refused(t, "no value", "coppice 9\nput 61 #78", 2, api.ErrWords)
	refused(t, "no number", "coppice #9", 1, api.ErrWords)
	refused(t, "no word", "#coppice 9", 0, api.ErrScript)
	parseIs(t, "a remark ends with its line", "coppice 9 # x\nput 61 78 # y\n", want, 0, api.OK)
}

// TestP23_1Steps: as many steps as may be, and one more.
func TestP23_1Steps(t *testing.T) {
	full := "coppice 9\n" + strings.Repeat("view\n", 2000)
	want := api.Script{Cap: 9, Ops: slices.Repeat([]api.Op{{Kind: api.OpView}}, 2000)}
	parseIs(t, "2000 steps", full, want, 0, api.OK)
	parseIs(t, "2000 steps", strings.TrimSuffix(full, "\n"), want, 0, api.OK)
	parseIs(t, "2000 steps, and lines without words", strings.ReplaceAll(full, "\n", "\n#\n\n")+" \n# view\n\t", want, 0, api.OK)
	less := api.Script{Cap: 9, Ops: want.Ops[:1999]}
	parseIs(t, "1999 steps", strings.TrimSuffix(full, "view\n"), less, 0, api.OK)
	for _, more := range []string{"view", "view\n", "x", "put 61", "put 6 7", "open x", "crash t", "coppice 9", "view\nx\n"} {
		refused(t, "2001 steps", full+more, 2002, api.ErrMany)
		refused(t, "2001 steps", full+"\n#\n"+more, 2004, api.ErrMany)
	}
	refused(t, "a fault of the last step that may be", strings.TrimSuffix(full, "view\n")+"x\nview\n", 2001, api.ErrWord)
	refused(t, "a fault ahead of the steps that are too many", "coppice 9\nx\n"+full, 2, api.ErrWord)
}

// TestP23_1Long: as many bytes as may be, and one more.
func TestP23_1Long(t *testing.T) {
	upTo := func(text, with string, n int) string { return text + strings.Repeat(with, n-len(text)) }
	for _, with := range []string{" ", "\t", "#", "\n"} {
		refused(t, "no word", upTo("", with, 1048576), 0, api.ErrScript)
		refused(t, "too long", upTo("", with, 1048577), 0, api.ErrMany)
		parseIs(t, "just not too long", upTo("coppice 9\nview ", with, 1048576), oneStep(api.Op{Kind: api.OpView}), 0, api.OK)
		for _, text := range []string{"coppice 9\nview ", "coppice 9\nx ", "x ", "coppice ", "coppice 9\nput 6 6 "} {
			refused(t, "too long", upTo(text, with, 1048577), 0, api.ErrMany)
			refused(t, "much too long", upTo(text, with, 3000000), 0, api.ErrMany)
		}
	}
	refused(t, "a long word", upTo("coppice 9\n", "x", 1048576), 2, api.ErrWord)
	refused(t, "a long word", upTo("", "x", 1048576), 1, api.ErrScript)
	refused(t, "a long number", upTo("coppice ", "9", 1048576), 1, api.ErrNumber)
	refused(t, "a fault in the last line", upTo("coppice 9", "\n", 1048575)+"x", 1048567, api.ErrWord)
	refused(t, "many words", "coppice 9\nview"+strings.Repeat(" x", 524281), 2, api.ErrWords)
	value := oneStep(api.Op{Kind: api.OpPut, Key: []byte("a"), Value: slices.Repeat([]byte("x"), 524279)})
	parseIs(t, "a long value", "coppice 9\nput 61 "+strings.Repeat("78", 524279)+"\n", value, 0, api.OK)
	fates := oneStep(api.Op{Kind: api.OpCrash, Fates: slices.Repeat([]api.Fate{{Kind: api.Kept}}, 524280)})
	parseIs(t, "many fates", "coppice 9\ncrash"+strings.Repeat(" k", 524280)+"\n", fates, 0, api.OK)
}

// TestP23_1Short: all texts of few bytes behind some beginnings, as the chapter's words say.
func TestP23_1Short(t *testing.T) {
	t.Parallel()
	seen := map[api.Errno]int{}
	for _, x := range []struct {
		first, bytes string
		most         int
	}{
		{"", "cop #\n", 5}, {"coppice", " 019-\t\n#", 5}, {"coppice 9\nopen", " 10-\n#", 6}, {"coppice 9\nput", " 06f-\n#", 6}, {"coppice 9\nrank", " 06-\n#", 6},
		{"coppice 9\ncrash", " lkt0-\n#", 5}, {"coppice 9\n", "vie w\n#", 5}, {"coppice 9\nview", " \t1\n#", 5},
	} {
		var longer func(text string, left int)
		longer = func(text string, left int) {
			seen[asPlain(t, text)]++
			if left > 0 {
				for i := range len(x.bytes) {
					longer(text+x.bytes[i:i+1], left-1)
				}
			}
		}
		longer(x.first, x.most)
	}
	for _, err := range []api.Errno{api.OK, api.ErrScript, api.ErrWord, api.ErrNumber, api.ErrWords, api.ErrHex} {
		if seen[err] < 50 {
			t.Errorf("the error %d comes %d times", err, seen[err])
		}
	}
}

// TestP23_1Noise: texts by noise, changed a few times over, as the chapter's words say.
func TestP23_1Noise(t *testing.T) {
	t.Parallel()
	next := noise(231)
	seen := map[api.Errno]int{}
	for range 8000 {
		text, err := plainPrint(someScript(next, 12))
		if err != api.OK {
			t.Fatalf("the plain Print answers %d", err)
		}
		seen[asPlain(t, text)]++
		for range 4 {
			text = changed(text, next)
			seen[asPlain(t, text)]++
		}
	}
	for _, err := range []api.Errno{api.OK, api.ErrScript, api.ErrWord, api.ErrNumber, api.ErrWords, api.ErrHex} {
		if seen[err] < 100 {
			t.Errorf("the error %d comes %d times", err, seen[err])
		}
	}
}

// TestP23_1Any: any bytes have an answer.
func TestP23_1Any(t *testing.T) {
	next := noise(2310)
	for i := range 5000 {
		b := make([]byte, next(60))
		for i := range b {
			b[i] = byte(next(256))
		}
		asPlain(t, string(b))
		asPlain(t, fmt.Sprintf("coppice %s", b))
		asPlain(t, fmt.Sprintf("coppice %d\n%s", i%3, b))
		asPlain(t, fmt.Sprintf("coppice %d\n%s %s\n", i%3, plainRows[i%22].word, b))
	}
	asPlain(t, strings.Repeat("\n", 1048576))
	asPlain(t, strings.Repeat("coppice 0\n", 3000))
	asPlain(t, strings.Repeat("#", 1048576))
}
