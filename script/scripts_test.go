package script_test

import (
	"slices"
	"strings"

	"coppice/api"
)

// someNumber is a number by noise that may stand in a script.
func someNumber(next func(int) int) int {
	switch next(4) {
	case 0:
		return []int{0, 1, -1, 9, 10, -10, 100, 4096, 1 << 30, 2147483646, 2147483647, -2147483646, -2147483647}[next(13)]
	case 1:
		return next(1<<31-1) - next(1<<31-1)
	}
	return next(20)
}

// someBytes are bytes by noise.
func someBytes(next func(int) int) []byte {
	return fill([]int{0, 0, 1, 1, 2, 3, 20}[next(7)], next(256))
}

// someFates are fates by noise that may be.
func someFates(next func(int) int) []api.Fate {
	var l []api.Fate
	for range next(6) {
		f := api.Fate{Kind: next(3)}
		if f.Kind == api.Torn {
			f.At = someNumber(next)
		}
		l = append(l, f)
	}
	return l
}

// stepOf is a step of that kind, with fields by noise.
func stepOf(kind int, next func(int) int) api.Op {
	op := api.Op{Kind: kind}
	for _, field := range plainRows[kind-1].fields {
		switch field {
		case "A":
			op.A = someNumber(next)
		case "B":
			op.B = someNumber(next)
		case "C":
			op.C = someNumber(next)
		case "Key":
			op.Key = someBytes(next)
		case "Value":
			op.Value = someBytes(next)
		case "Hi":
			op.Hi = someBytes(next)
		case "Fates":
			op.Fates = someFates(next)
		}
	}
	return op
}

// someScript is a script by noise that has a text.
func someScript(next func(int) int, most int) api.Script {
	s := api.Script{Cap: someNumber(next)}
	for range next(most + 1) {
		s.Ops = append(s.Ops, stepOf(1+next(22), next))
	}
	return s
}

// goodNumbers are words that are numbers.
func goodNumbers() map[string]int {
	return map[string]int{
		"0": 0, "1": 1, "9": 9, "10": 10, "100": 100, "-1": -1, "-9": -9, "-10": -10, "1000000000": 1000000000, "999999999": 999999999,
		"2147483647": 2147483647, "2147483646": 2147483646, "2147483640": 2147483640, "-2147483647": -2147483647, "-2147483646": -2147483646,
	}
}

// badNumbers are words that are no numbers.
func badNumbers() []string {
	return []string{
		"00", "01", "09", "-0", "-00", "-01", "+0", "+1", "-", "--1", "-+1", "1-", "1-1", "0x1", "0b1", "0o7", "1a", "a", "x", "1.", "1.0", ".1", "1e3", "1_0", "1,0", "'1'", "½",
		"2147483648", "-2147483648", "2147483650", "3000000000", "4294967295", "4294967296", "4294967297", "-4294967297", "21474836470", "9223372036854775807", "9223372036854775808", "-9223372036854775808", "-9223372036854775809",
		"18446744073709551615", "18446744073709551616", "18446744073709551617", "-18446744073709551617", "1" + strings.Repeat("0", 1000), strings.Repeat("9", 1000), "0" + strings.Repeat("0", 1000),
		"１", "١", "1\x00", "\x001", "1\r", "\v1", "1\f", "1\u00a0", "\u20031", "\xff", "\x80", "1\xff", "−1", "l", "k", "t", "t1", "coppice", "inf", "nan", "true",
	}
}

// goodHex are words that are bytes.
func goodHex() map[string]string {
	return map[string]string{
		"-": "", "00": "\x00", "0a": "\x0a", "20": " ", "09": "\t", "23": "#", "61": "a", "ff": "\xff", "000aff": "\x00\x0a\xff", "0000": "\x00\x00", "6162": "ab", "99": "\x99",
		strings.Repeat("0123456789abcdef", 500): strings.Repeat("\x01\x23\x45\x67\x89\xab\xcd\xef", 500), strings.Repeat("61", 300): strings.Repeat("a", 300),
	}
}

// badHex are words that are no bytes.
func badHex() []string {
	return []string{
		"0", "6", "616", "0g", "g0", "0A", "FF", "fF", "--", "-0", "-00", "00-", "0-", "+0", "0x", "0x00", "x0", "00\x00", "\x0000", "00\r", "0\r", "\v0", "00\u00a0", "é", "0é", "ab\xff\xff", "\xff\xff", "００", "zz", "put", "00,00",
		strings.Repeat("0", 1001), strings.Repeat("00", 500) + "0G",
	}
}

// oneOf is one of the words, by noise.
func oneOf(next func(int) int, words ...string) string { return words[next(len(words))] }

// changed is a text with a change by noise in its bytes, its words or its lines.
func changed(text string, next func(int) int) string {
	lines := strings.SplitAfter(text, "\n")
	i, k := next(len(lines)), next(len(lines))
	at := next(len(text) + 1)
	words := strings.Split(lines[i], " ")
	w := next(len(words))
	switch next(9) {
	case 0:
		lines[i], lines[k] = lines[k], lines[i]
	case 1:
		lines = slices.Delete(lines, i, i+1)
	case 2:
		lines = slices.Insert(lines, i, lines[k])
	case 3:
		lines = slices.Insert(lines, i, oneOf(next, "\n", " \t\n", "# remark\n", "coppice 9\n", "crash l\n"))
	case 4:
		words[w] = oneOf(next, "0", "-0", "7", "-", "6", "61", "l", "k", "t", "t5", "t-0", "put", "open", "crash", "coppice", "2147483647", "2147483648", "")
		lines[i] = strings.Join(words, " ") + "\n"
	case 5:
		lines[i] = strings.Join(slices.Delete(words, w, w+1), " ")
	case 6:
		lines[i] = strings.Join(slices.Insert(words, w, oneOf(next, "", "1", "-", "61", "#", "#x", "\t")), " ")
	case 7:
		return text[:at] + text[min(len(text), at+1+next(3)):]
	default:
		return text[:at] + oneOf(next, "0", "f", "F", " ", "\t", "-", "\n", "#", "\r", "t", "é", "\xff", "\x00", "\v") + text[min(len(text), at+next(2)):]
	}
	return strings.Join(lines, "")
}
