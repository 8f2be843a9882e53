package dump_test

import (
	"fmt"
	"slices"
	"strings"
	"testing"

	"coppice/api"
)

// TestP20_3Examples: the chapter's.
func TestP20_3Examples(t *testing.T) {
	parseIs(t, "none", "coppice 0\n", nil, 0, api.OK)
	parseIs(t, "two", "coppice 2\n61 01\n62 -\n", []api.Pair{pair("a", "\x01"), pair("b", "")}, 0, api.OK)
	for _, x := range []struct {
		text string
		line int
		err  api.Errno
	}{
		{"", 1, api.ErrText},
		{"coppice 0", 1, api.ErrText},
		{"coppice 00\n", 1, api.ErrText},
		{"Coppice 0\n", 1, api.ErrText},
		{"coppice 0\n\n", 2, api.ErrText},
		{"coppice 1\n", 2, api.ErrText},
		{"coppice 1\n61 01", 2, api.ErrText},
		{"coppice 0\n61 01\n", 2, api.ErrText},
		{"coppice 1\n61  01\n", 2, api.ErrText},
		{"coppice 1\n61\n", 2, api.ErrText},
		{"coppice 1\n 01\n", 2, api.ErrText},
		{"coppice 1\n6A 01\n", 2, api.ErrHex},
		{"coppice 1\n- 01\n", 2, api.ErrSize},
		{"coppice 1\n61 0\n", 2, api.ErrHex},
		{"coppice 2\n62 -\n61 -\n", 3, api.ErrOrder},
		{"coppice 2\n61 -\n61 -\n", 3, api.ErrOrder},
	} {
		refused(t, "an example", x.text, x.line, x.err)
	}
}

// TestP20_3First: what is no first line, with nothing, or a pair, or something wrong behind it.
func TestP20_3First(t *testing.T) {
	for _, first := range []string{
		"", " ", "coppice", "coppice ", " coppice 1", "coppice  1", "coppice 1 ", "coppice\t1", "coppice1", "COPPICE 1", "coppic 1", "coppices 1", "1", "coppice 1 1",
		"coppice -", "coppice -1", "coppice +1", "coppice -0", "coppice 01", "coppice 00", "coppice 001", "coppice 0x1", "coppice 1a", "coppice a", "coppice f", "coppice 1.", "coppice 1_0", "coppice 1e0",
		"coppice 1\r", "\ufeffcoppice 1", "coppice １", "coppice ١", "coppice \xff", "coppice 1\x00", "\x00", "coppice \n1",
		"coppice 2147483648", "coppice 2147483650", "coppice 3000000000", "coppice 4294967296", "coppice 4294967297", "coppice 21474836470", "coppice 9223372036854775807",
		"coppice 9223372036854775808", "coppice 18446744073709551616", "coppice 18446744073709551617", "coppice 1" + strings.Repeat("0", 5000), "coppice " + strings.Repeat("9", 100000),
	} {
		for _, rest := range []string{"", "\n", "\n61 01\n", "\n61 01", "\n\n", "\n61 0g\n", "\n61 01\n62 02\n"} {
			refused(t, "no first line", first+rest, 1, api.ErrText)
		}
	}
	for i := range len("coppice 1\n") {
		refused(t, "a first line cut short", "coppice 1\n"[:i], 1, api.ErrText)
	}
}

// TestP20_3Number: the greatest numbers that a first line may say, with fewer lines behind it.
func TestP20_3Number(t *testing.T) {
	for _, n := range []string{"2147483647", "2147483646", "2147483640", "2099999999", "2000000000", "1999999999", "1000000000", "999999999", "10", "9", "3"} {
		refused(t, "no pair", "coppice "+n+"\n", 2, api.ErrText)
		refused(t, "one pair", "coppice "+n+"\n61 -\n", 3, api.ErrText)
		refused(t, "two pairs", "coppice "+n+"\n61 -\n62 -\n", 4, api.ErrText)
		refused(t, "two pairs, the second one wrong", "coppice "+n+"\n61 -\n61 -\n", 3, api.ErrOrder)
		refused(t, "two pairs, the second one not ended", "coppice "+n+"\n61 -\n62 -", 3, api.ErrText)
	}
}

// TestP20_3Lines: the faults of a line that is not the first one, whichever line it is.
func TestP20_3Lines(t *testing.T) {
	ahead := ""
	for i := range 12 {
		behind := i % 3
		says := fmt.Sprintf("coppice %d\n", i+1+behind)
		is := func(line string, err api.Errno) {
			t.Helper()
			text := says + ahead + line + "\n"
			if i > 0 || err != api.ErrOrder { // no key stands ahead of the first one
				refused(t, "a wrong line", text, i+2, err)
				refused(t, "a wrong line, more behind it", text+"7e -\n7f -\n", i+2, err)
				refused(t, "a wrong line, then one that is not ended", text+"7e", i+2, err)
				refused(t, "a wrong line, then wrong ones", text+"\ng g\n", i+2, err)
			}
			refused(t, "a wrong line that is not ended", says+ahead+line, i+2, api.ErrText)
		}
		for _, line := range []string{"", " ", "  ", "61", "61 ", " 61", " 61 01", "61 01 ", "61  01", "61 01 02", "61 0 1", "61\t01", "-", "- ", " -", "g g g", "coppice", "coppice  0"} {
			is(line, api.ErrText)
		}
		for _, line := range []string{"6A 01", "6 01", "616 01", "6g 01", "-- 01", "-61 01", "61- 01", "0x61 01", "é 01", "\xff 01", "\r 01", "g g", "6 0", "coppice 1", "6A -", "6A 0"} {
			is(line, api.ErrHex)
		}
		for _, line := range []string{"70 0", "70 0A", "70 0g", "70 --", "70 01\r", "70 01\x00", "70 01\t02", "70 é", "70 \xff", "70 -0", "70 0-", "70 010"} {
			is(line, api.ErrHex)
		}
		for _, line := range []string{"- -", "- 01", "- g", "- 0"} {
			is(line, api.ErrSize)
		}
		for _, line := range []string{"00 -", "40 01", "40ffff 01", fmt.Sprintf("%02x -", 0x40+i), fmt.Sprintf("%02x ff", 0x40+i)} {
			is(line, api.ErrOrder)
		}
		ahead += fmt.Sprintf("%02x %02x\n", 0x41+i, i)
	}
}

// TestP20_3Sizes: the least and the greatest key and value that may be, and those beside them; and which fault of a line comes first.
func TestP20_3Sizes(t *testing.T) {
	x := func(n int) string { return strings.Repeat("78", n) }
	is := func(what, key, value string, err api.Errno) {
		t.Helper()
		one := "coppice 1\n" + key + " " + value + "\n"
		two := "coppice 2\n77 -\n" + key + " " + value + "\n"
		if err != api.OK {
			refused(t, what, one, 2, err)
			refused(t, what, two, 3, err)
			return
		}
		p := pair(strings.Repeat("x", len(key)/2), strings.Repeat("x", len(value)/2))
		parseIs(t, what, one, []api.Pair{p}, 0, api.OK)
		parseIs(t, what, two, []api.Pair{pair("w", ""), p}, 0, api.OK)
	}
	is("a key of 1 byte", x(1), "-", api.OK)
	is("a key of 255 bytes", x(255), x(1), api.OK)
	is("a key of 256 bytes", x(256), x(1), api.ErrSize)
	is("a key of many bytes", x(1<<20), x(1), api.ErrSize)
	is("a value of 262144 bytes", x(1), x(262144), api.OK)
	is("a value of 262145 bytes", x(1), x(262145), api.ErrSize)
	is("a value of many bytes", x(1), x(1<<20), api.ErrSize)
	is("both as great as may be", x(255), x(262144), api.OK)
	is("a key of 255 bytes and a half", x(255)+"7", x(1), api.ErrHex)
	is("a long key that is none", x(256)+"g", x(1), api.ErrHex)
	is("a long key, then a value that is none", x(256), "g", api.ErrSize)
	is("a long key, then a long value", x(256), x(262145), api.ErrSize)
	is("a key that is none, then a long value", "g", x(262145), api.ErrHex)
	is("a long value that is none", x(1), x(262145)+"7", api.ErrHex)
	is("a long value with a space", x(1), x(262145)+" 7", api.ErrText)
	is("a long key and two spaces", x(256), " "+x(1), api.ErrText)
	order := "coppice 2\n78 -\n"
	refused(t, "the order and a value that is none", order+"77 0\n", 3, api.ErrHex)
	refused(t, "the order and a long value", order+"77 "+x(262145)+"\n", 3, api.ErrSize)
	refused(t, "the order and a long key", order+strings.Repeat("77", 256)+" -\n", 3, api.ErrSize)
	refused(t, "the order", order+strings.Repeat("77", 255)+" "+x(262144)+"\n", 3, api.ErrOrder)
}

// TestP20_3Order: neighbours whose order is the bytes' and not another one.
func TestP20_3Order(t *testing.T) {
	rising := []string{"00", "0000", "0001", "01", "09", "0a", "0aff", "0b", "61", "6100", "61ff", "62", "7f", "80", "fe", "ff", "ff00", "ffff"}
	for i, x := range rising {
		for k, y := range rising {
			text := "coppice 2\n" + x + " 05\n" + y + " -\n"
			if i < k {
				_, _, err := plainParse(text)
				if asPlain(t, text); err != api.OK {
					t.Errorf("the plain Parse refuses %q", text)
				}
			} else {
				refused(t, "not rising", text, 3, api.ErrOrder)
			}
		}
	}
	var text strings.Builder
	fmt.Fprintf(&text, "coppice %d\n", len(rising))
	for _, x := range rising {
		text.WriteString(x + " -\n")
	}
	if asPlain(t, text.String()) != api.OK {
		t.Error("rising keys are refused")
	}
	refused(t, "only the neighbour counts", "coppice 3\n61 -\n63 -\n62 -\n", 4, api.ErrOrder)
	refused(t, "the order ahead of a missing line", "coppice 9\n62 -\n61 -\n", 3, api.ErrOrder)
}

// TestP20_3Behind: whatever stands behind as many lines as the first one says.
func TestP20_3Behind(t *testing.T) {
	text := "coppice 0\n"
	for n := range 5 {
		for _, more := range []string{"\n", " ", "\x00", "6", "61 01", "61 01\n", "ff -\n", "00 -\n", "g g\n", "coppice 0\n", "\n\n\n", "ff -\nfe -\n", "\xff\xff", strings.Repeat("ff", 300) + " -\n"} {
			refused(t, "a line too many", text+more, n+2, api.ErrText)
		}
		text = strings.Replace(text, fmt.Sprint(n), fmt.Sprint(n+1), 1) + fmt.Sprintf("%02x -\n", 0xa0+n)
	}
}

// TestP20_3Short: all texts of few bytes behind a first line, as the chapter's words say.
func TestP20_3Short(t *testing.T) {
	t.Parallel()
	seen := map[api.Errno]int{}
	for _, x := range []struct {
		first, bytes string
		most         int
	}{{"coppice 1\n", "0aA -\n\xff", 6}, {"coppice 2\n0a -\n", "0b -\n", 7}, {"coppice 0\n", "0 \n-", 4}, {"", "cop ", 5}, {"coppice", " 01\n", 7}, {"coppice ", "01- \n", 6}} {
		var longer func(text string, left int)
		longer = func(text string, left int) {
			seen[asPlain(t, text)]++
			if left > 0 {
				for i := range len(x.bytes) {
					longer(text+x.bytes[i:i+1], left-1)
				}
			}
		}
		longer(x.first, x.most)
	}
	for _, err := range []api.Errno{api.OK, api.ErrText, api.ErrHex, api.ErrSize, api.ErrOrder} {
		if seen[err] < 5 {
			t.Errorf("the error %d comes %d times", err, seen[err])
		}
	}
}

// changed is a text with a change by noise in its bytes or in its lines.
func changed(text string, next func(int) int) string {
	lines := strings.SplitAfter(text, "\n")
	i, k := next(len(lines)), next(len(lines))
	at := next(len(text) + 1)
	switch next(10) {
	case 0:
		lines[i], lines[k] = lines[k], lines[i]
	case 1:
		lines = slices.Delete(lines, i, i+1)
	case 2:
		lines = slices.Insert(lines, i, lines[k])
	case 3:
		lines[i] = strings.ToUpper(lines[i])
	case 4:
		lines[0] = fmt.Sprintf("coppice %d\n", max(0, len(lines)-4+next(5)))
	case 5:
		return text[:at]
	case 6:
		return text[:at] + text[min(len(text), at+1+next(3)):]
	case 7:
		key := []string{"-", "6", "6a", strings.Repeat("cc", 255), strings.Repeat("cc", 256)}[next(5)]
		value := []string{"-", "0", "0a"}[next(3)]
		if next(10) == 0 { // rarely: they take their time
			value = strings.Repeat("00", 262144+next(2))
		}
		lines[i] = key + " " + value + "\n"
	default:
		return text[:at] + []string{"0", "f", "F", " ", "-", "\n", "00", "\r", "g", "é", "\xff", "\x00"}[next(12)] + text[min(len(text), at+next(2)):]
	}
	return strings.Join(lines, "")
}

// TestP20_3Noise: texts by noise, changed a few times over, as the chapter's words say.
func TestP20_3Noise(t *testing.T) {
	t.Parallel()
	next := noise(203)
	seen := map[api.Errno]int{}
	for range 4000 {
		text := plainText(somePairs(next, 9))
		seen[asPlain(t, text)]++
		for range 3 {
			text = changed(text, next)
			seen[asPlain(t, text)]++
		}
	}
	for _, err := range []api.Errno{api.OK, api.ErrText, api.ErrHex, api.ErrSize, api.ErrOrder} {
		if seen[err] < 50 {
			t.Errorf("the error %d comes %d times", err, seen[err])
		}
	}
}

// TestP20_3Any: any bytes have an answer.
func TestP20_3Any(t *testing.T) {
	next := noise(2030)
	for i := range 3000 {
		b := []byte(fill(next(60), 1))
		for i := range b {
			b[i] = byte(next(256))
		}
		asPlain(t, string(b))
		asPlain(t, fmt.Sprintf("coppice %d\n%s", i%3, b))
		asPlain(t, fmt.Sprintf("coppice %d\n61 %s\n", i%3, b))
	}
	asPlain(t, strings.Repeat("\n", 100000))
	asPlain(t, "coppice 100000\n"+strings.Repeat("\n", 100000))
	asPlain(t, strings.Repeat("coppice 0\n", 1000))
	asPlain(t, "coppice 1\n"+strings.Repeat(" ", 100000)+"\n")
}
