package world_test

import (
	"bytes"
	"fmt"
	"math"
	"strings"
	"testing"

	"coppice/api"
	"coppice/world"
)

// TestP24_1New: worlds there are of just the caps that disks have; a new one has a disk of no page, no store and no view.
func TestP24_1New(t *testing.T) {
	for _, cap := range []int{math.MinInt, -9, -1, 0, 1, 524288, 1 << 31, math.MaxInt} {
		if world.New(cap) != nil {
			t.Errorf("there is a world of cap %d", cap)
		}
	}
	for _, cap := range []int{2, 3, 9, 524286, 524287} {
		w := newWorld(t, cap)
		if len(w.Durable()) != 0 {
			t.Errorf("cap %d: something lasts on a new disk", cap)
		}
		for kind := 1; kind <= 22; kind++ {
			if plainRows[kind].with {
				fails(t, w, api.Op{Kind: kind}, api.ErrNoStore)
			}
		}
		stepIs(t, w, api.Op{Kind: api.OpCheck}, api.Event{Code: api.ErrFile})
		stepIs(t, w, api.Op{Kind: api.OpCrash}, api.Event{})
	}
}

// TestP24_1Cap: the disk has just the cap that was asked for.
func TestP24_1Cap(t *testing.T) {
	for cap := 2; cap < 9; cap++ {
		w := opened(t, cap)
		stepIs(t, w, api.Op{Kind: api.OpState}, api.Event{B: cap - 2, State: api.State{Version: 1, Count: 2}})
		does(t, w, put("a", 4085*4)) // a leaf, and four pages of a chain
		want := api.OK
		if cap < 7 {
			want = api.ErrFull
		}
		stepIs(t, w, api.Op{Kind: api.OpCommit}, api.Event{Code: want})
	}
}

// stages are worlds as they may stand: what has been done with each.
func stages(t *testing.T) map[string]*world.World {
	t.Helper()
	l := map[string]*world.World{"new": newWorld(t, 9), "open": opened(t, 9), "ended": opened(t, 9), "crashed": opened(t, 9), "compacted": opened(t, 9), "formatted": newWorld(t, 9)}
	does(t, l["formatted"], api.Op{Kind: api.OpFormat})
	for _, name := range []string{"open", "ended", "crashed", "compacted"} {
		does(t, l[name], put("k", 9), api.Op{Kind: api.OpView}, api.Op{Kind: api.OpCommit}, api.Op{Kind: api.OpView}, put("l", 9))
	}
	does(t, l["ended"], api.Op{Kind: api.OpArm, A: 1})
	stepIs(t, l["ended"], api.Op{Kind: api.OpCommit}, api.Event{Code: api.ErrPower})
	does(t, l["crashed"], api.Op{Kind: api.OpCrash})
	does(t, l["compacted"], api.Op{Kind: api.OpCompact, A: 9})
	return l
}

// TestP24_2Kinds: a kind that is none is ErrKind ahead of all else, and the event tells it all the same.
func TestP24_2Kinds(t *testing.T) {
	for name, w := range stages(t) {
		t.Run(name, func(t *testing.T) {
			for _, kind := range []int{0, -1, 23, 24, 100, math.MinInt, math.MaxInt, 1 << 32, 1<<32 + api.OpPut, -api.OpPut} {
				for _, op := range []api.Op{{}, {A: 1}, {B: 1}, {C: 1}, {Key: []byte("k")}, {Value: []byte("k")}, {Hi: []byte("k")}, {Fates: []api.Fate{{Kind: 1}}}, {A: 1, Key: []byte("k"), Value: []byte("v")}} {
					op.Kind = kind
					fails(t, w, op, api.ErrKind)
					if e := w.Step(op); e.Kind != kind {
						t.Errorf("the kind %d is told as %d", kind, e.Kind)
					}
				}
			}
		})
	}
}

// fieldSteps are the fields of a step, each set to what is not zero in some ways.
func fieldSteps() map[string][]func(op *api.Op) {
	m := map[string][]func(op *api.Op){}
	for _, n := range []int{1, -1, 2, 256, 1 << 32, math.MinInt, math.MaxInt} {
		m["A"] = append(m["A"], func(op *api.Op) { op.A = n })
		m["B"] = append(m["B"], func(op *api.Op) { op.B = n })
		m["C"] = append(m["C"], func(op *api.Op) { op.C = n })
	}
	for _, n := range []int{1, 2, 255, 256, 300000} {
		for _, b := range [][]byte{make([]byte, n), fill(n, 5)} {
			m["Key"] = append(m["Key"], func(op *api.Op) { op.Key = b })
			m["Value"] = append(m["Value"], func(op *api.Op) { op.Value = b })
			m["Hi"] = append(m["Hi"], func(op *api.Op) { op.Hi = b })
		}
	}
	for _, l := range [][]api.Fate{{{}}, {{Kind: 1}}, {{Kind: 2, At: 9}}, {{Kind: 7}}, make([]api.Fate, 3000)} {
		m["Fates"] = append(m["Fates"], func(op *api.Op) { op.Fates = l })
	}
	return m
}

// TestP24_2Fields: a field that a kind doesn't use is ErrField, if it isn't zero, ahead of all but ErrKind, whatever it holds; and nothing is done.
func TestP24_2Fields(t *testing.T) {
	for name, w := range stages(t) {
		t.Run(name, func(t *testing.T) {
			for kind := 1; kind <= 22; kind++ {
				for field, ways := range fieldSteps() {
					if uses(kind, field) {
						continue
					}
					for _, set := range ways {
						op := api.Op{Kind: kind}
						set(&op)
						fails(t, w, op, api.ErrField)
					}
				}
			}
		})
	}
}

// TestP24_2Used: a field that a kind uses may hold anything: some other error, or none, is told.
func TestP24_2Used(t *testing.T) {
	for kind := 1; kind <= 22; kind++ {
		for field, ways := range fieldSteps() {
			if !uses(kind, field) {
				continue
			}
			for _, set := range ways {
				op := api.Op{Kind: kind}
				set(&op)
				for name, w := range map[string]*world.World{"new": newWorld(t, 9), "open": opened(t, 9)} {
					if e := w.Step(op); e.Code == api.ErrField || e.Code == api.ErrKind {
						t.Errorf("%s: Step(%s) is the error %d", name, told(op), e.Code)
					}
				}
			}
		}
	}
}

// TestP24_2Long: numbers and lists that no script's text could have are a step's all the same.
func TestP24_2Long(t *testing.T) {
	w := opened(t, 9)
	long := make([]byte, 1100000)
	does(t, w, put("a", 9), api.Op{Kind: api.OpView})
	for _, kind := range []int{api.OpPut, api.OpDelete, api.OpGet} {
		fails(t, w, api.Op{Kind: kind, Key: long}, api.ErrSize)
	}
	fails(t, w, api.Op{Kind: api.OpPut, Key: []byte("a"), Value: long}, api.ErrSize)
	fails(t, w, api.Op{Kind: api.OpRead, A: 1, Key: long}, api.ErrSize)
	want := api.Event{Pairs: []api.Pair{{Key: []byte("a"), Value: fill(9, 1)}}}
	stepIs(t, w, api.Op{Kind: api.OpScan, Key: long, A: math.MaxInt}, want)
	stepIs(t, w, api.Op{Kind: api.OpScan, Key: long, Hi: long, A: math.MaxInt}, api.Event{})
	stepIs(t, w, api.Op{Kind: api.OpRange, A: 1, Key: long, Hi: long, B: math.MaxInt}, api.Event{})
	stepIs(t, w, api.Op{Kind: api.OpRank, A: 1, Key: long}, api.Event{})
	fails(t, w, api.Op{Kind: api.OpRot, A: math.MaxInt, B: math.MinInt, C: math.MaxInt}, api.ErrNoPage)
	stepIs(t, w, api.Op{Kind: api.OpCrash, Fates: make([]api.Fate, 1100000)}, api.Event{B: 2})
}

// TestP24_2Empty: an empty list is zero, as none is.
func TestP24_2Empty(t *testing.T) {
	for kind := 1; kind <= 22; kind++ {
		for name, w := range stages(t) {
			plain := stages(t)[name].Step(api.Op{Kind: kind})
			op := api.Op{Kind: kind, Key: []byte{}, Value: []byte{}, Hi: []byte{}, Fates: []api.Fate{}}
			if e := w.Step(op); !sameEvent(e, plain) || e.Code == api.ErrField {
				t.Errorf("%s: Step(%s) tells %s, not %s", name, told(op), told(e), told(plain))
			}
		}
	}
}

// sensible is a step of a kind that would do something.
func sensible(kind int) api.Op {
	op := api.Op{Kind: kind}
	for _, field := range strings.Fields(plainRows[kind].fields) {
		switch field {
		case "A":
			op.A = 1
		case "B":
			op.B = 1
		case "C":
			op.C = 1
		case "Key":
			op.Key = []byte("k")
		case "Value":
			op.Value = []byte("v")
		case "Hi":
			op.Hi = []byte("z")
		case "Fates":
			op.Fates = []api.Fate{{Kind: api.Kept}}
		}
	}
	return op
}

// TestP24_2Nothing: what is refused as no step does nothing.
func TestP24_2Nothing(t *testing.T) {
	for kind := 1; kind <= 22; kind++ {
		w, as := opened(t, 20), opened(t, 20)
		for _, x := range []*world.World{w, as} {
			does(t, x, put("k", 600), api.Op{Kind: api.OpCommit}, api.Op{Kind: api.OpView}, put("k", 700), put("l", 5))
		}
		for field, ways := range fieldSteps() {
			if !uses(kind, field) {
				op := sensible(kind)
				ways[0](&op)
				fails(t, w, op, api.ErrField)
			}
		}
		for _, op := range []api.Op{{Kind: api.OpState}, {Kind: api.OpScan, A: 9}, {Kind: api.OpRange, A: 1, B: 9}, {Kind: api.OpCheck}, {Kind: api.OpClose, A: 1}, {Kind: api.OpView}, {Kind: api.OpCommit}, {Kind: api.OpDump}, {Kind: api.OpCrash}} {
			stepIs(t, w, op, as.Step(op))
		}
		if !bytes.Equal(w.Durable(), as.Durable()) {
			t.Errorf("kind %d: other bytes last", kind)
		}
	}
}

// TestP24_3NoStore: with no store, whatever the reason, thirteen kinds are ErrNoStore, whatever their fields hold; the others are not.
func TestP24_3NoStore(t *testing.T) {
	for _, name := range []string{"new", "formatted", "crashed", "compacted"} {
		t.Run(name, func(t *testing.T) {
			w := stages(t)[name]
			n := 0
			for kind := 1; kind <= 22; kind++ {
				if !plainRows[kind].with {
					if e := stages(t)[name].Step(api.Op{Kind: kind}); e.Code == api.ErrNoStore || e.Code == api.ErrOpen {
						t.Errorf("%s is the error %d", plainRows[kind].word, e.Code)
					}
					continue
				}
				n++
				fails(t, w, api.Op{Kind: kind}, api.ErrNoStore)
				for field, ways := range fieldSteps() {
					for _, set := range ways {
						op := api.Op{Kind: kind}
						if set(&op); uses(kind, field) {
							fails(t, w, op, api.ErrNoStore)
						}
					}
				}
			}
			if n != 13 {
				t.Errorf("%d kinds need a store", n)
			}
		})
	}
}

// TestP24_3Open: while there is a store, one that has ended too, Format and Open are ErrOpen, and it stays as it is.
func TestP24_3Open(t *testing.T) {
	w := opened(t, 9)
	does(t, w, put("a", 3))
	for _, frames := range []int{1, 4096, 0, -1, 4097, math.MinInt, math.MaxInt} {
		fails(t, w, api.Op{Kind: api.OpOpen, A: frames}, api.ErrOpen)
		fails(t, w, api.Op{Kind: api.OpFormat}, api.ErrOpen)
	}
	stepIs(t, w, api.Op{Kind: api.OpGet, Key: []byte("a")}, api.Event{Found: true, Value: fill(3, 1)})
	does(t, w, api.Op{Kind: api.OpArm, A: 1})
	stepIs(t, w, api.Op{Kind: api.OpCommit}, api.Event{Code: api.ErrPower})
	for _, frames := range []int{1, 0} {
		fails(t, w, api.Op{Kind: api.OpOpen, A: frames}, api.ErrOpen)
		fails(t, w, api.Op{Kind: api.OpFormat}, api.ErrOpen)
	}
	stepIs(t, w, api.Op{Kind: api.OpCrash}, api.Event{A: 1, B: 2})
	does(t, w, api.Op{Kind: api.OpOpen, A: 1}, api.Op{Kind: api.OpCrash}, api.Op{Kind: api.OpFormat}, api.Op{Kind: api.OpFormat})
}

// TestP24_3Refused: an Open that tells an error leaves no store.
func TestP24_3Refused(t *testing.T) {
	w := newWorld(t, 9)
	for range 2 {
		fails(t, w, api.Op{Kind: api.OpOpen, A: 1}, api.ErrFile)
		fails(t, w, api.Op{Kind: api.OpOpen}, api.ErrFrames)
		fails(t, w, api.Op{Kind: api.OpState}, api.ErrNoStore)
	}
	does(t, w, api.Op{Kind: api.OpFormat})
	fails(t, w, api.Op{Kind: api.OpOpen, A: 4097}, api.ErrFrames)
	fails(t, w, api.Op{Kind: api.OpState}, api.ErrNoStore)
	does(t, w, api.Op{Kind: api.OpFormat}, api.Op{Kind: api.OpOpen, A: 4096}, api.Op{Kind: api.OpState})
}

// ofViews are the kinds that name a view.
var ofViews = []int{api.OpRead, api.OpRange, api.OpNth, api.OpRank, api.OpClose}

// noView asks whether a number is that of no view, by all kinds that name one, whatever else they hold.
func noView(t *testing.T, w *world.World, no int) {
	t.Helper()
	for _, kind := range ofViews {
		fails(t, w, api.Op{Kind: kind, A: no}, api.ErrNoView)
		for field, ways := range fieldSteps() {
			if uses(kind, field) && field != "A" {
				op := api.Op{Kind: kind, A: no}
				ways[len(ways)-1](&op)
				fails(t, w, op, api.ErrNoView)
			}
		}
	}
}

// TestP24_3Views: views have the numbers 1, 2, 3 and so on, closed ones keep theirs, and a new store begins anew.
func TestP24_3Views(t *testing.T) {
	w := opened(t, 30)
	wrong := []int{0, -1, math.MinInt, math.MaxInt, 1 << 32, 1<<32 + 1}
	for round, ahead := range []api.Op{{Kind: api.OpRollback}, {Kind: api.OpCrash}, {Kind: api.OpCompact, A: 30}, {Kind: api.OpCrash}} {
		if does(t, w, ahead); round > 0 {
			fails(t, w, api.Op{Kind: api.OpClose, A: 1}, api.ErrNoStore)
			does(t, w, api.Op{Kind: api.OpOpen, A: 1})
		}
		version := w.Step(api.Op{Kind: api.OpState}).State.Version
		for no := 1; no <= 5; no++ {
			for _, x := range append(wrong, no, no+1) {
				noView(t, w, x)
			}
			stepIs(t, w, api.Op{Kind: api.OpView}, api.Event{A: no, B: version})
			stepIs(t, w, api.Op{Kind: api.OpClose, A: no}, api.Event{Found: true})
			stepIs(t, w, api.Op{Kind: api.OpClose, A: no}, api.Event{})
			fails(t, w, api.Op{Kind: api.OpRead, A: no, Key: []byte("a")}, api.ErrClosed)
			does(t, w, put(fmt.Sprint("k", round, no), 5), api.Op{Kind: api.OpCommit})
			version++
		}
	}
}

// TestP24_3Ended: of a store that has ended the views are there still, and no others; none comes any more.
func TestP24_3Ended(t *testing.T) {
	w := stages(t)["ended"]
	for range 2 {
		fails(t, w, api.Op{Kind: api.OpView}, api.ErrEnded)
		for _, no := range []int{0, 3, 4, -1} {
			noView(t, w, no)
		}
		for no := 1; no <= 2; no++ {
			fails(t, w, api.Op{Kind: api.OpRead, A: no, Key: []byte("k")}, api.ErrEnded)
			fails(t, w, api.Op{Kind: api.OpRange, A: no}, api.ErrEnded)
			fails(t, w, api.Op{Kind: api.OpNth, A: no}, api.ErrEnded)
			fails(t, w, api.Op{Kind: api.OpRank, A: no}, api.ErrEnded)
			stepIs(t, w, api.Op{Kind: api.OpClose, A: no}, api.Event{})
		}
	}
}
