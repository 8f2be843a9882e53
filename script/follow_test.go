package script_test

import (
	"slices"
	"strings"
	"testing"

	"coppice/api"
	"coppice/script"
)

// TestP23_6There: what Print makes of a script Parse takes back; and unlike scripts have unlike texts.
func TestP23_6There(t *testing.T) {
	next := noise(236)
	scripts := []api.Script{
		{}, {Cap: -2147483647}, {Cap: 2147483647}, oneStep(api.Op{Kind: api.OpCrash}), oneStep(api.Op{Kind: api.OpPut}),
		oneStep(api.Op{Kind: api.OpPut, Key: fill(262140, 3), Value: fill(262140, 5)}),
		oneStep(api.Op{Kind: api.OpCrash, Fates: slices.Repeat([]api.Fate{{Kind: api.Kept}}, 524280)}),
		{Cap: 9, Ops: slices.Repeat([]api.Op{{Kind: api.OpRollback}}, 2000)},
	}
	for range 5000 {
		scripts = append(scripts, someScript(next, 12))
	}
	texts := map[string]api.Script{}
	for _, s := range scripts {
		text, err := script.Print(s)
		if err != api.OK {
			t.Fatalf("Print: %d", err)
		}
		parseIs(t, "there and back", text, s, 0, api.OK)
		if other, is := texts[text]; is && !sameScript(s, other) {
			t.Errorf("two scripts have the text %s", shown(text))
		}
		texts[text] = s
	}
}

// TestP23_6Back: what Parse takes Print writes, so that Parse takes it for the same; and once more, as the same text.
func TestP23_6Back(t *testing.T) {
	next := noise(2360)
	taken := 0
	for range 20000 {
		text, _ := plainPrint(someScript(next, 5))
		s, _, err := script.Parse(changed(changed(text, next), next))
		if err != api.OK {
			continue
		}
		taken++
		again, err := script.Print(s)
		if err != api.OK {
			t.Errorf("Print of %s: %d", told(s), err)
		}
		parseIs(t, "back and there", again, s, 0, api.OK)
	}
	if taken < 1000 {
		t.Errorf("only %d texts are taken", taken)
	}
}

// TestP23_6Long: a text of as many bytes as may be, without a newline byte at its end, would have one too many.
func TestP23_6Long(t *testing.T) {
	text := "coppice 99\nput 61 " + strings.Repeat("78", 524279)
	want := api.Script{Cap: 99, Ops: []api.Op{{Kind: api.OpPut, Key: []byte("a"), Value: []byte(strings.Repeat("x", 524279))}}}
	if len(text) != 1048576 {
		t.Fatalf("%d bytes", len(text))
	}
	parseIs(t, "a long text", text, want, 0, api.OK)
	printIs(t, "a text too long", want, "", api.ErrMany)
	want.Cap = 9
	printIs(t, "a text just not too long", want, strings.Replace(text, "99", "9", 1)+"\n", api.OK)
}

// gap are blanks by noise, at least so many.
func gap(next func(int) int, least int) string {
	var b strings.Builder
	for range least + next(3) {
		b.WriteString(oneOf(next, " ", "\t"))
	}
	return b.String()
}

// remark is something by noise that says nothing.
func remark(next func(int) int) string {
	if next(2) == 0 {
		return ""
	}
	return "#" + oneOf(next, "", " ", "#", " put 61 78", "coppice 9", "\x00\xff\r", " x # y", "\t\t")
}

// dressed is a text with the same words, and things that say nothing by noise; and of each of its lines that has words where it stands now.
func dressed(text string, next func(int) int) (string, map[int]int) {
	var b strings.Builder
	now := map[int]int{}
	no := 0
	for i, line := range plainLines(text) {
		for range next(3) {
			b.WriteString(gap(next, 0) + remark(next) + "\n")
			no++
		}
		no++
		now[i+1] = no
		b.WriteString(gap(next, 0) + strings.Join(plainWords(line), gap(next, 1)) + gap(next, 0) + remark(next))
		b.WriteString("\n")
	}
	switch next(3) {
	case 0:
		return strings.TrimSuffix(b.String(), "\n"), now
	case 1:
		return b.String() + gap(next, 0) + remark(next), now
	}
	return b.String(), now
}

// TestP23_7Dressed: what says nothing changes neither a script nor a fault, but for the number of its line.
func TestP23_7Dressed(t *testing.T) {
	next := noise(237)
	seen := map[api.Errno]int{}
	for range 10000 {
		text, _ := plainPrint(someScript(next, 8))
		for range next(4) {
			text = changed(text, next)
		}
		s, line, err := script.Parse(text)
		seen[err]++
		for range 3 {
			other, now := dressed(text, next)
			parseIs(t, "dressed "+shown(text), other, s, now[line], err)
		}
	}
	for _, err := range []api.Errno{api.OK, api.ErrScript, api.ErrWord, api.ErrNumber, api.ErrWords, api.ErrHex} {
		if seen[err] < 50 {
			t.Errorf("the error %d comes %d times", err, seen[err])
		}
	}
}

// TestP23_7Long: so much that says nothing that the text is too long; and not quite so much.
func TestP23_7Long(t *testing.T) {
	for _, with := range []string{" ", "\t", "#", "\n"} {
		for _, x := range []struct {
			left, right string
			s           api.Script
			err         api.Errno
		}{{"coppice 9\nview\n", "", oneStep(api.Op{Kind: api.OpView}), api.OK}, {"coppice 9\n", "\nviews", api.Script{}, api.ErrWord}} {
			n := 1048576 - len(x.left) - len(x.right)
			text := x.left + strings.Repeat(with, n) + x.right
			line := 0
			if x.err != api.OK {
				line = 1 + strings.Count(text, "\n")
			}
			parseIs(t, "long", text, x.s, line, x.err)
			refused(t, "too long", with+text, 0, api.ErrMany)
		}
	}
}

// TestP23_8Behind: a fault of a line is the same, whatever stands behind that line, and if nothing does.
func TestP23_8Behind(t *testing.T) {
	next := noise(238)
	seen := map[api.Errno]int{}
	for range 10000 {
		text, _ := plainPrint(someScript(next, 8))
		for range 1 + next(3) {
			text = changed(text, next)
		}
		_, line, err := script.Parse(text)
		if line == 0 {
			continue
		}
		seen[err]++
		upTo := strings.Join(plainLines(text)[:line], "\n")
		other, _ := plainPrint(someScript(next, 3))
		for _, behind := range []string{"", "\n", "\nx", "\n\xff\xff\n\n", "\n" + other, "\n" + text, "\n" + changed(other, next), "\n" + strings.Repeat("view\n", 2001)} {
			refused(t, "behind", upTo+behind, line, err)
		}
	}
	for _, err := range []api.Errno{api.ErrScript, api.ErrWord, api.ErrNumber, api.ErrWords, api.ErrHex} {
		if seen[err] < 50 {
			t.Errorf("the error %d comes %d times", err, seen[err])
		}
	}
	full := "coppice 9\n" + strings.Repeat("view\n", 2000)
	for _, behind := range []string{"", "\n", "\nx", "\nview", "\n" + full} {
		refused(t, "a step too many", full+"view"+behind, 2002, api.ErrMany)
	}
}
