package bulk_test

import (
	"strings"
	"testing"

	"coppice/api"
	"coppice/bulk"
	"coppice/disk"
	"coppice/dump"
)

// textOf is the text of pairs.
func textOf(t *testing.T, l []api.Pair) string {
	t.Helper()
	text, err := dump.Text(l)
	if err != api.OK {
		t.Fatalf("Text: %d", err)
	}
	return text
}

// textRefused asks for a line and an error of Text, with nothing done.
func textRefused(t *testing.T, what string, d *disk.Disk, text string, line int, err api.Errno) {
	t.Helper()
	was := state(d)
	if at, e := bulk.Text(d, text); at != line || e != err {
		t.Errorf("%s: Text is %d in line %d, not %d in line %d", what, e, at, err, line)
	}
	if state(d) != was {
		t.Errorf("%s: something was done with the disk", what)
	}
}

// TestP21_3Woods: the file of a text is the file of its pairs.
func TestP21_3Woods(t *testing.T) {
	next := noise(213)
	for _, w := range woods() {
		for range 3 {
			l := w.some(next, next(w.pairs/2))
			d := newDisk(t, 5000)
			if line, err := bulk.Text(d, textOf(t, l)); line != 0 || err != api.OK {
				t.Fatalf("%s: %d in line %d", w.name, err, line)
			}
			holds(t, w.name, d, plainFile(t, l))
		}
	}
}

func TestP21_3ByHand(t *testing.T) {
	for text, l := range map[string][]api.Pair{
		"coppice 0\n":                nil,
		"coppice 1\n61 -\n":          {pair("a", 0)},
		"coppice 2\n61 01\n62 02\n":  {{Key: []byte("a"), Value: []byte{1}}, {Key: []byte("b"), Value: []byte{2}}},
		"coppice 2\n00 ff\n0000 -\n": {{Key: []byte{0}, Value: []byte{255}}, {Key: []byte{0, 0}}},
	} {
		d := newDisk(t, 9)
		if line, err := bulk.Text(d, text); line != 0 || err != api.OK {
			t.Errorf("%q: %d in line %d", text, err, line)
		}
		holds(t, text, d, plainFile(t, l))
	}
}

// TestP21_3Faults: what Parse refuses, in its line, whatever the disk is like.
func TestP21_3Faults(t *testing.T) {
	disks := usedDisks(t)
	disks["new"] = newDisk(t, 9)
	disks["small"] = newDisk(t, 2)
	for what, d := range disks {
		for _, x := range []struct {
			text string
			line int
			err  api.Errno
		}{
			{"", 1, api.ErrText}, {"coppice 0", 1, api.ErrText}, {"coppice 00\n", 1, api.ErrText}, {"Coppice 0\n", 1, api.ErrText}, {"coppice 0\n\n", 2, api.ErrText},
			{"coppice 1\n", 2, api.ErrText}, {"coppice 1\n61 01", 2, api.ErrText}, {"coppice 1\n6A 01\n", 2, api.ErrHex}, {"coppice 1\n- 01\n", 2, api.ErrSize},
			{"coppice 2\n62 -\n61 -\n", 3, api.ErrOrder}, {"coppice 3\n61 -\n62 -\n62 -\n", 4, api.ErrOrder},
			{"coppice 1\n" + strings.Repeat("61", 256) + " -\n", 2, api.ErrSize}, {"coppice 2\n61 -\n62 " + strings.Repeat("00", 262145) + "\n", 3, api.ErrSize},
		} {
			textRefused(t, what, d, x.text, x.line, x.err)
		}
	}
}

// TestP21_3Disks: behind a text that may be, Load's errors, in no line.
func TestP21_3Disks(t *testing.T) {
	text := textOf(t, letters(9, 500))
	for what, d := range usedDisks(t) {
		textRefused(t, what, d, text, 0, api.ErrUsed)
		textRefused(t, what, d, "coppice 0\n", 0, api.ErrUsed)
	}
	d := newDisk(t, 4)
	if line, err := bulk.Text(d, text); line != 0 || err != api.ErrFull {
		t.Errorf("cap 4: %d in line %d", err, line)
	}
	holds(t, "cap 4", d, emptyFile(t))
	d = newDisk(t, 5)
	d.Arm(7)
	if line, err := bulk.Text(d, text); line != 0 || err != api.ErrPower || d.Done() != 7 {
		t.Errorf("the power fails: %d in line %d", err, line)
	}
}
