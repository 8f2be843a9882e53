package world_test

import (
	"bytes"
	"slices"
	"testing"

	"coppice/api"
	"coppice/script"
	"coppice/world"
)

// roomy are the same bytes with spare room behind them.
func roomy(b []byte) []byte { return append(bytes.Clone(b), 0x55, 0x55, 0x55)[:len(b)] }

// roomyOp is the same step, each list with spare room behind it.
func roomyOp(op api.Op) api.Op {
	op.Key, op.Value, op.Hi = roomy(op.Key), roomy(op.Value), roomy(op.Hi)
	op.Fates = append(slices.Clone(op.Fates), api.Fate{Kind: 7, At: 7})[:len(op.Fates)]
	return op
}

// isRoomy asks whether a roomy step is as it was made, its spare room too.
func isRoomy(t *testing.T, op, was api.Op) {
	t.Helper()
	for i, b := range [][]byte{op.Key, op.Value, op.Hi} {
		if !bytes.Equal(b, [][]byte{was.Key, was.Value, was.Hi}[i]) || string(b[len(b):len(b)+3]) != "UUU" {
			t.Errorf("Step(%s) has changed bytes that were handed in", told(was))
		}
	}
	if !slices.Equal(op.Fates, was.Fates) || op.Fates[:len(op.Fates)+1][len(op.Fates)] != (api.Fate{Kind: 7, At: 7}) {
		t.Errorf("Step(%s) has changed fates that were handed in", told(was))
	}
}

// spoil writes over bytes, and over their spare room.
func spoil(b []byte) {
	b = b[:cap(b)]
	for i := range b {
		b[i] += 101
	}
}

// spoilOp writes over all lists of a step, and over their spare room.
func spoilOp(op api.Op) {
	spoil(op.Key)
	spoil(op.Value)
	spoil(op.Hi)
	l := op.Fates[:cap(op.Fates)]
	for i := range l {
		l[i] = api.Fate{Kind: 1, At: 9}
	}
}

// spoilEvent writes over all lists of an event, and over their spare room.
func spoilEvent(e api.Event) {
	spoil(e.Value)
	for _, p := range e.Pairs {
		spoil(p.Key)
		spoil(p.Value)
	}
	l := e.Pairs[:cap(e.Pairs)]
	for i := range l {
		l[i] = api.Pair{Key: []byte("spoilt"), Value: []byte("spoilt")}
	}
}

// twinOf is a copy of an event that shares no list.
func twinOf(e api.Event) api.Event {
	e.Value, e.Pairs = bytes.Clone(e.Value), slices.Clone(e.Pairs)
	for i, p := range e.Pairs {
		e.Pairs[i] = api.Pair{Key: bytes.Clone(p.Key), Value: bytes.Clone(p.Value)}
	}
	return e
}

// TestP24_8HandedIn: a step's lists stay as they are, and what is written over them later, or over what was answered, the world doesn't show.
func TestP24_8HandedIn(t *testing.T) {
	for seed := range uint64(60) {
		m := &maker{next: noise(seed + 2480)}
		w, as := newWorld(t, 60), newWorld(t, 60)
		for range 200 {
			op := m.step()
			want := as.Step(op)
			handed := roomyOp(op)
			got := w.Step(handed)
			isRoomy(t, handed, op)
			spoilOp(handed)
			if !sameEvent(got, want) {
				t.Fatalf("seed %d: Step(%s) tells %s, not %s", seed, told(op), told(got), told(want))
			}
			spoilEvent(got)
			m.last = want
		}
		if b := w.Durable(); !bytes.Equal(b, as.Durable()) {
			t.Fatalf("seed %d: other bytes last", seed)
		}
	}
}

// TestP24_8Answers: what is written into an event, its spare room too, no older and no younger one shows.
func TestP24_8Answers(t *testing.T) {
	w := lettered(t, "abcdef", "gh")
	does(t, w, put("i", 5000), api.Op{Kind: api.OpCommit}, api.Op{Kind: api.OpView})
	asking := []api.Op{
		{Kind: api.OpGet, Key: []byte("a")}, {Kind: api.OpGet, Key: []byte("i")}, {Kind: api.OpScan, A: 99},
		{Kind: api.OpRead, A: 1, Key: []byte("a")}, {Kind: api.OpRead, A: 2, Key: []byte("i")}, {Kind: api.OpRange, A: 2, B: 99}, {Kind: api.OpNth, A: 2, B: 0}, {Kind: api.OpNth, A: 2, B: 8},
	}
	var first, was []api.Event
	for _, op := range asking {
		e := w.Step(op)
		if len(e.Value) == 0 && len(e.Pairs) == 0 {
			t.Fatalf("Step(%s) tells nothing", told(op))
		}
		first, was = append(first, e), append(was, twinOf(e))
	}
	for i := range asking {
		spoilEvent(first[i])
		for j, op := range asking {
			if j > i && !sameEvent(first[j], was[j]) {
				t.Errorf("what %s told shows what was written into another answer", told(op))
			}
			if e := w.Step(op); !sameEvent(e, was[j]) {
				t.Errorf("what %s tells shows what was written into an older answer", told(op))
			}
		}
	}
}

// TestP24_8Lists: what is written into one list of an event, or appended to it, no other list of that event shows.
func TestP24_8Lists(t *testing.T) {
	w := lettered(t, "abcdef", "gh")
	for _, op := range []api.Op{{Kind: api.OpScan, A: 99}, {Kind: api.OpRange, A: 1, B: 99}, {Kind: api.OpNth, A: 1, B: 3}} {
		want := twinOf(w.Step(op))
		e := w.Step(op)
		for i := range e.Pairs {
			for _, b := range []*[]byte{&e.Pairs[i].Key, &e.Pairs[i].Value} {
				was := bytes.Clone(*b)
				_ = append(*b, 1, 2, 3)
				spoil(*b)
				*b = was
				if !sameEvent(e, want) {
					t.Fatalf("%s: a list shows what was written into another one", told(op))
				}
			}
		}
	}
}

// TestP24_8Durable: what is written over what Durable answered, its spare room too, changes nothing.
func TestP24_8Durable(t *testing.T) {
	w := lettered(t, "abc", "d")
	first, want := w.Durable(), w.Durable()
	spoil(first)
	_ = append(first, 1, 2, 3)
	if !bytes.Equal(w.Durable(), want) {
		t.Error("what lasts shows what was written over an answer")
	}
	stepIs(t, w, api.Op{Kind: api.OpCheck}, api.Event{})
	stepIs(t, w, api.Op{Kind: api.OpRead, A: 1, Key: []byte("b")}, api.Event{Found: true, Value: []byte("bb")})
}

// TestP24_8Run: each list of lines is new memory, and Show changes nothing of an event.
func TestP24_8Run(t *testing.T) {
	s, want := someScript(t, 248, 40)
	text, err := script.Print(s)
	if err != api.OK {
		t.Fatalf("Print: %d", err)
	}
	first, _, _ := world.Run(text)
	second, _, _ := world.Run(text)
	first = first[:cap(first)]
	for i := range first {
		first[i] = "spoilt"
	}
	if !slices.Equal(second, want) {
		t.Error("one list of lines shows what was written into another one")
	}
	runIs(t, text, want...)
	next := noise(2481)
	for range 1000 {
		e := someEvent(next)
		e.Value = roomy(e.Value)
		was := twinOf(e)
		world.Show(e)
		if !sameEvent(e, was) || string(e.Value[len(e.Value):len(e.Value)+3]) != "UUU" {
			t.Errorf("Show has changed the event %s", told(was))
		}
	}
}
