package script_test

import (
	"bytes"
	"slices"
	"testing"

	"coppice/api"
	"coppice/script"
)

// roomy are the same bytes with spare room behind them.
func roomy(b []byte) []byte { return append(bytes.Clone(b), 0x55, 0x55, 0x55)[:len(b)] }

// roomyScript is the same script, each list with spare room behind it.
func roomyScript(s api.Script) api.Script {
	spare := api.Op{Kind: 7, A: 7, Key: []byte("spare")}
	ops := append(slices.Clone(s.Ops), spare)[:len(s.Ops)]
	for i, op := range ops {
		ops[i].Key, ops[i].Value, ops[i].Hi = roomy(op.Key), roomy(op.Value), roomy(op.Hi)
		ops[i].Fates = append(slices.Clone(op.Fates), api.Fate{Kind: 7, At: 7})[:len(op.Fates)]
	}
	return api.Script{Cap: s.Cap, Ops: ops}
}

// roomIs asks whether the spare room of a roomy script is as it was.
func roomIs(t *testing.T, s api.Script) {
	t.Helper()
	if op := s.Ops[:len(s.Ops)+1][len(s.Ops)]; op.Kind != 7 || op.A != 7 || string(op.Key) != "spare" {
		t.Error("the room behind the steps has changed")
	}
	for _, op := range s.Ops {
		for _, b := range [][]byte{op.Key, op.Value, op.Hi} {
			if string(b[len(b):len(b)+3]) != "UUU" {
				t.Error("the room behind bytes has changed")
			}
		}
		if f := op.Fates[:len(op.Fates)+1][len(op.Fates)]; f.Kind != 7 || f.At != 7 {
			t.Error("the room behind fates has changed")
		}
	}
}

// spoilBytes writes over bytes, and over their spare room.
func spoilBytes(b []byte) {
	b = b[:cap(b)]
	for i := range b {
		b[i] += 101
	}
}

// spoilFates writes over fates, and over their spare room.
func spoilFates(l []api.Fate) {
	l = l[:cap(l)]
	for i := range l {
		l[i] = api.Fate{Kind: 9, At: 99}
	}
}

// spoilOps writes over all lists of steps, and over their spare room.
func spoilOps(ops []api.Op) {
	for _, op := range ops {
		spoilBytes(op.Key)
		spoilBytes(op.Value)
		spoilBytes(op.Hi)
		spoilFates(op.Fates)
	}
	ops = ops[:cap(ops)]
	for i := range ops {
		ops[i] = api.Op{Kind: 99, A: 99}
	}
}

// TestP23_5HandedIn: a script that is handed in is as it was, its spare room too, whether it has a text or not, and is not kept.
func TestP23_5HandedIn(t *testing.T) {
	next := noise(235)
	refused := 0
	for i := range 2000 {
		want := someScript(next, 9)
		if i%3 == 0 {
			want = spoilt(want, next)
		}
		s := roomyScript(want)
		text, err := script.Print(s)
		if err != api.OK {
			refused++
		}
		if !sameScript(s, want) {
			t.Errorf("the script has changed: %s, not %s", told(s), told(want))
		}
		roomIs(t, s)
		spoilOps(s.Ops)
		printIs(t, "again", want, text, err)
		if plain, _ := plainPrint(want); text != plain {
			t.Errorf("the text shows what was written over the script later: %s", shown(text))
		}
	}
	if refused < 100 {
		t.Errorf("only %d scripts are refused", refused)
	}
}

// TestP23_5Answers: what is written into an answer, its spare room too, no other answer shows.
func TestP23_5Answers(t *testing.T) {
	next := noise(2350)
	for range 500 {
		want := someScript(next, 9)
		text, _ := plainPrint(want)
		first, _, _ := script.Parse(text)
		second, _, _ := script.Parse(text)
		spoilOps(first.Ops)
		if !sameScript(second, want) {
			t.Errorf("%s: one answer shows what was written into another one", shown(text))
		}
		parseIs(t, "again", text, want, 0, api.OK)
	}
}

// lists are all lists of bytes in steps, and where they stand.
func lists(ops []api.Op) []*[]byte {
	var l []*[]byte
	for i := range ops {
		l = append(l, &ops[i].Key, &ops[i].Value, &ops[i].Hi)
	}
	return l
}

// TestP23_5Lists: what is written into one list of an answer, its spare room too, no other list of that answer shows.
func TestP23_5Lists(t *testing.T) {
	next := noise(2351)
	for range 200 {
		want := someScript(next, 9)
		text, _ := plainPrint(want)
		s, _, _ := script.Parse(text)
		for _, b := range lists(s.Ops) {
			was := *b
			spoilBytes(*b)
			*b = bytes.Clone(was)
			for i := range *b {
				(*b)[i] -= 101
			}
			if !sameScript(s, want) {
				t.Fatalf("%s: a list shows what was written into another one", shown(text))
			}
		}
		for i := range s.Ops {
			spoilFates(s.Ops[i].Fates)
			s.Ops[i].Fates = want.Ops[i].Fates
			if !sameScript(s, want) {
				t.Fatalf("%s: a list shows what was written into another one", shown(text))
			}
		}
	}
}

// TestP23_5Spare: what is appended to one list of an answer is not written over by what is appended to another one.
func TestP23_5Spare(t *testing.T) {
	next := noise(2352)
	for range 200 {
		text, _ := plainPrint(someScript(next, 9))
		s, _, _ := script.Parse(text)
		var longer [][]byte
		for i, b := range lists(s.Ops) {
			longer = append(longer, append(*b, byte(i)))
		}
		var fates [][]api.Fate
		for i, op := range s.Ops {
			fates = append(fates, append(op.Fates, api.Fate{At: i}))
		}
		for i, b := range longer {
			if b[len(b)-1] != byte(i) {
				t.Errorf("list %d: its last byte is %d", i, b[len(b)-1])
			}
		}
		for i, l := range fates {
			if l[len(l)-1].At != i {
				t.Errorf("fates %d: the last one is %v", i, l[len(l)-1])
			}
		}
	}
}
