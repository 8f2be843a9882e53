package dump_test

import (
	"bytes"
	"slices"
	"testing"

	"coppice/api"
	"coppice/dump"
)

// spoil writes over bytes, and over their spare room.
func spoil(b []byte) {
	_ = append(b, 1, 2, 3)
	b = b[:cap(b)]
	for i := range b {
		b[i] += 101
	}
}

// roomy is a string as bytes with spare room behind them.
func roomy(s string) []byte { return append([]byte(s), 0x55, 0x55, 0x55)[:len(s)] }

// TestP20_5HandedIn: what is handed in is as it was, its spare room too, and is not kept.
func TestP20_5HandedIn(t *testing.T) {
	next := noise(205)
	for range 300 {
		var l, were []api.Pair
		for _, p := range somePairs(next, 6) {
			l = append(l, api.Pair{Key: roomy(string(p.Key)), Value: roomy(string(p.Value))})
			were = append(were, p)
		}
		l = append(l, pair("spare", "room"))[:len(l)]
		text, _ := dump.Text(l)
		for i := range l {
			if same := dump.Hex(l[i].Value); same != plainHex(were[i].Value) {
				t.Errorf("Hex: %s", shown(same))
			}
			if !bytes.Equal(l[i].Key[:len(l[i].Key)+3], append(were[i].Key, 0x55, 0x55, 0x55)) || !bytes.Equal(l[i].Value[:len(l[i].Value)+3], append(were[i].Value, 0x55, 0x55, 0x55)) {
				t.Error("a pair that was handed in has changed")
			}
		}
		if spare := l[:len(l)+1][len(l)]; string(spare.Key) != "spare" || string(spare.Value) != "room" {
			t.Error("the spare room behind the pairs has changed")
		}
		for _, p := range l {
			spoil(p.Key)
			spoil(p.Value)
		}
		clear(l)
		if text != plainText(were) {
			t.Error("the text shows what was written over the pairs later")
		}
	}
}

// TestP20_5WrongOnes: pairs that are refused are as they were, too.
func TestP20_5WrongOnes(t *testing.T) {
	l := []api.Pair{{Key: roomy("b"), Value: roomy("x")}, {Key: roomy("a"), Value: roomy("y")}, {Key: roomy(""), Value: nil}}
	textIs(t, "falling", l, "", api.ErrOrder)
	if string(l[0].Key[:4]) != "bUUU" || string(l[1].Key[:4]) != "aUUU" || string(l[1].Value[:4]) != "yUUU" || string(l[2].Key[:3]) != "UUU" {
		t.Error("a pair that was handed in has changed")
	}
}

// TestP20_5Unhex: bytes that are answered are new memory each time.
func TestP20_5Unhex(t *testing.T) {
	for _, text := range []string{"-", "00", "000aff", plainHex([]byte(fill(5000, 3)))} {
		a, _ := dump.Unhex(text)
		b, _ := dump.Unhex(text)
		spoil(a)
		if dump.Hex(b) != text {
			t.Errorf("one answer shows what was written into another one: %s", shown(dump.Hex(b)))
		}
		hexIs(t, b, text)
	}
}

// TestP20_5Parse: each list of an answer is new memory: what is written into one of them, or appended to it, no other one shows.
func TestP20_5Parse(t *testing.T) {
	next := noise(2050)
	for range 200 {
		want := somePairs(next, 7)
		text := plainText(want)
		first, _, _ := dump.Parse(text)
		second, _, _ := dump.Parse(text)
		for i := range first {
			for _, value := range []bool{false, true} {
				l := slices.Clone(first)
				spoilt := &l[i].Key
				if value {
					spoilt = &l[i].Value
				}
				was := bytes.Clone((*spoilt)[:cap(*spoilt)])
				spoil(*spoilt)
				*spoilt = was[:len(*spoilt)]
				if !samePairs(l, want) {
					t.Errorf("pair %d of %s: another list shows what was written into it", i, shown(text))
				}
				copy(first[i].Key, want[i].Key)
				copy(first[i].Value, want[i].Value)
			}
		}
		spare := first[:cap(first)]
		for i := range spare {
			spare[i] = pair("spoilt", "spoilt")
		}
		if !samePairs(second, want) {
			t.Errorf("%s: one answer shows what was written into another one", shown(text))
		}
		parseIs(t, "again", text, want, 0, api.OK)
	}
}

// TestP20_5Spare: what is appended to one list of an answer is not written over by what is appended to another one.
func TestP20_5Spare(t *testing.T) {
	next := noise(2051)
	for range 200 {
		l, _, _ := dump.Parse(plainText(somePairs(next, 7)))
		var longer [][]byte
		for i, p := range l {
			longer = append(longer, append(p.Key, byte(2*i)), append(p.Value, byte(2*i+1)))
		}
		for i, b := range longer {
			if b[len(b)-1] != byte(i) {
				t.Errorf("list %d: its last byte is %d", i, b[len(b)-1])
			}
		}
	}
}

// TestP20_5File: a file is as it was, its spare room too, whether it is accepted or not, and is not kept.
func TestP20_5File(t *testing.T) {
	for _, b := range [][]byte{nil, make([]byte, 5), laid(t), broken(laid(t), 2), grown(t, 1, 40)} {
		file := roomy(string(b))
		text, at, err := dump.File(file)
		if !bytes.Equal(file[:len(b)+3], append(slices.Clone(b), 0x55, 0x55, 0x55)) {
			t.Error("the file has changed")
		}
		spoil(file)
		if again, no, e := dump.File(b); again != text || no != at || e != err {
			t.Error("the text shows what was written over the file later")
		}
	}
}
