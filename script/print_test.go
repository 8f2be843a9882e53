package script_test

import (
	"math"
	"slices"
	"strings"
	"testing"

	"coppice/api"
	"coppice/script"
)

// farNumbers are numbers that may not stand in a script.
var farNumbers = []int{2147483648, -2147483648, 2147483649, 1 << 32, 1<<32 + 1, -(1 << 32), 1 << 62, math.MaxInt, math.MinInt, math.MinInt + 1}

// TestP23_2Examples: the chapter's, and a line of each kind.
func TestP23_2Examples(t *testing.T) {
	k, v, h := []byte("k"), []byte("vv"), []byte("\xff\x00\x0a")
	printIs(t, "the chapter's", oneStep(api.Op{Kind: api.OpRange, A: 1, Key: []byte("a"), B: 5}), "coppice 9\nrange 1 61 - 5\n", api.OK)
	printIs(t, "no step", api.Script{}, "coppice 0\n", api.OK)
	printIs(t, "no step", api.Script{Cap: -12, Ops: []api.Op{}}, "coppice -12\n", api.OK)
	s := api.Script{Cap: 100}
	text := "coppice 100\n"
	for _, x := range []struct {
		op   api.Op
		line string
	}{
		{api.Op{Kind: api.OpFormat}, "format"},
		{api.Op{Kind: api.OpOpen, A: 4}, "open 4"},
		{api.Op{Kind: api.OpPut, Key: k, Value: v}, "put 6b 7676"},
		{api.Op{Kind: api.OpPut, Key: k, Value: []byte{}}, "put 6b -"},
		{api.Op{Kind: api.OpPut, Value: h}, "put - ff000a"},
		{api.Op{Kind: api.OpPut}, "put - -"},
		{api.Op{Kind: api.OpDelete, Key: k}, "delete 6b"},
		{api.Op{Kind: api.OpGet, Key: h}, "get ff000a"},
		{api.Op{Kind: api.OpScan, Key: k, Hi: h, A: -1}, "scan 6b ff000a -1"},
		{api.Op{Kind: api.OpCommit}, "commit"},
		{api.Op{Kind: api.OpRollback}, "rollback"},
		{api.Op{Kind: api.OpView}, "view"},
		{api.Op{Kind: api.OpRead, A: 1, Key: k}, "read 1 6b"},
		{api.Op{Kind: api.OpRange, A: 1, Key: k, Hi: h, B: 2}, "range 1 6b ff000a 2"},
		{api.Op{Kind: api.OpNth, A: 1, B: 2}, "nth 1 2"},
		{api.Op{Kind: api.OpRank, A: 1, Key: k}, "rank 1 6b"},
		{api.Op{Kind: api.OpClose, A: 2147483647}, "close 2147483647"},
		{api.Op{Kind: api.OpArm, A: -2147483647}, "arm -2147483647"},
		{api.Op{Kind: api.OpCrash}, "crash"},
		{api.Op{Kind: api.OpCrash, Fates: []api.Fate{{Kind: api.Torn}, {Kind: api.Lost}, {Kind: api.Kept}, {Kind: api.Torn, At: -3}, {Kind: api.Torn, At: 4095}}}, "crash t0 l k t-3 t4095"},
		{api.Op{Kind: api.OpRot, A: 1, B: 20, C: 255}, "rot 1 20 255"},
		{api.Op{Kind: api.OpCheck}, "check"},
		{api.Op{Kind: api.OpHands, A: 1, B: 2}, "hands 1 2"},
		{api.Op{Kind: api.OpState}, "state"},
		{api.Op{Kind: api.OpDump}, "dump"},
		{api.Op{Kind: api.OpCompact, A: 0}, "compact 0"},
	} {
		printIs(t, "one step", oneStep(x.op), "coppice 9\n"+x.line+"\n", api.OK)
		s.Ops, text = append(s.Ops, x.op), text+x.line+"\n"
	}
	printIs(t, "all steps", s, text, api.OK)
}

// TestP23_2Numbers: numbers have as few digits as can be, wherever they stand.
func TestP23_2Numbers(t *testing.T) {
	for word, n := range goodNumbers() {
		printIs(t, "a cap", api.Script{Cap: n}, "coppice "+word+"\n", api.OK)
		for line, op := range numberPlaces() {
			printIs(t, "a number", oneStep(op(n)), "coppice 9\n"+strings.Replace(line, "N", word, 1)+"\n", api.OK)
		}
	}
	for word, b := range goodHex() {
		for line, op := range bytesPlaces() {
			printIs(t, "bytes", oneStep(op([]byte(b))), "coppice 9\n"+strings.Replace(line, "N", word, 1)+"\n", api.OK)
		}
	}
}

// TestP23_2Noise: scripts by noise, as the chapter's words say.
func TestP23_2Noise(t *testing.T) {
	next := noise(232)
	for range 5000 {
		if err := asPlainPrint(t, someScript(next, 20)); err != api.OK {
			t.Fatalf("Print: %d", err)
		}
	}
}

// TestP23_3Examples: the chapter's.
func TestP23_3Examples(t *testing.T) {
	printIs(t, "a commit with A", oneStep(api.Op{Kind: api.OpCommit, A: 1}), "", api.ErrField)
	printIs(t, "a put with fates", oneStep(api.Op{Kind: api.OpPut, Fates: []api.Fate{{}}}), "", api.ErrField)
	printIs(t, "lost at 3", oneStep(api.Op{Kind: api.OpCrash, Fates: []api.Fate{{Kind: api.Lost, At: 3}}}), "", api.ErrField)
	printIs(t, "no kind", oneStep(api.Op{Kind: 23}), "", api.ErrWord)
}

// TestP23_3Kinds: what is none of the kinds.
func TestP23_3Kinds(t *testing.T) {
	for _, kind := range append([]int{0, 23, 24, -1, -22, 100, 255, 256, 257, 1<<32 + 1}, farNumbers...) {
		printIs(t, "no kind", oneStep(api.Op{Kind: kind}), "", api.ErrWord)
		printIs(t, "no kind, with fields", oneStep(api.Op{Kind: kind, A: 1 << 40, Key: []byte("a"), Fates: []api.Fate{{Kind: 9}}}), "", api.ErrWord)
	}
}

// spares are fields that hold something, one of them each.
func spares() map[string]func(op *api.Op) {
	return map[string]func(op *api.Op){
		"A":     func(op *api.Op) { op.A = 1 },
		"B":     func(op *api.Op) { op.B = -1 },
		"C":     func(op *api.Op) { op.C = 1 << 40 },
		"Key":   func(op *api.Op) { op.Key = []byte{0} },
		"Value": func(op *api.Op) { op.Value = []byte("v") },
		"Hi":    func(op *api.Op) { op.Hi = []byte("h") },
		"Fates": func(op *api.Op) { op.Fates = []api.Fate{{}} },
	}
}

// TestP23_3Fields: each field that a kind doesn't use, at each kind; and lists that are empty, not nil.
func TestP23_3Fields(t *testing.T) {
	next := noise(233)
	for _, r := range plainRows {
		for field, put := range spares() {
			if slices.Contains(r.fields, field) {
				continue
			}
			op := stepOf(r.kind, next)
			put(&op)
			printIs(t, field+" is not used", oneStep(op), "", api.ErrField)
			op = api.Op{Kind: r.kind}
			put(&op)
			printIs(t, field+" is not used, and nothing else is there", oneStep(op), "", api.ErrField)
		}
		op := stepOf(r.kind, next)
		want, _ := plainPrint(oneStep(op))
		for _, b := range []*[]byte{&op.Key, &op.Value, &op.Hi} {
			if len(*b) == 0 {
				*b = append(make([]byte, 0, 9), "spare"...)[:0]
			}
		}
		if len(op.Fates) == 0 {
			op.Fates = append([]api.Fate{}, api.Fate{Kind: 7})[:0]
		}
		printIs(t, "empty lists", oneStep(op), want, api.OK)
	}
}

// TestP23_3Numbers: numbers that are too far from 0, wherever one may stand, the cap too.
func TestP23_3Numbers(t *testing.T) {
	for _, n := range farNumbers {
		printIs(t, "a cap", api.Script{Cap: n}, "", api.ErrNumber)
		printIs(t, "a cap ahead of all", api.Script{Cap: n, Ops: make([]api.Op, 2001)}, "", api.ErrNumber)
		for line, op := range numberPlaces() {
			printIs(t, line, oneStep(op(n)), "", api.ErrNumber)
		}
	}
}

// TestP23_3Fates: fates that may not be, and which of several faults is told.
func TestP23_3Fates(t *testing.T) {
	crash := func(what string, err api.Errno, fates ...api.Fate) {
		t.Helper()
		printIs(t, what, oneStep(api.Op{Kind: api.OpCrash, Fates: fates}), "", err)
		good := []api.Fate{{Kind: api.Kept}, {Kind: api.Torn, At: 5}, {Kind: api.Lost}}
		bad := []api.Fate{{Kind: 3}, {Kind: api.Lost, At: 1}, {Kind: api.Torn, At: 1 << 31}}
		printIs(t, what+", among others", oneStep(api.Op{Kind: api.OpCrash, Fates: slices.Concat(good, fates, good)}), "", err)
		for i := range bad {
			printIs(t, what+", ahead of others", oneStep(api.Op{Kind: api.OpCrash, Fates: slices.Concat(good, fates, bad[i:])}), "", err)
		}
	}
	for _, kind := range append([]int{3, 4, -1, 256, 1 << 32}, farNumbers...) {
		crash("no kind", api.ErrWord, api.Fate{Kind: kind})
		crash("no kind, at a place", api.ErrWord, api.Fate{Kind: kind, At: 7})
		crash("no kind, at a place too far", api.ErrWord, api.Fate{Kind: kind, At: 1 << 31})
	}
	for _, at := range append([]int{1, -1, 4096}, farNumbers...) {
		crash("lost at a place", api.ErrField, api.Fate{Kind: api.Lost, At: at})
		crash("kept at a place", api.ErrField, api.Fate{Kind: api.Kept, At: at})
	}
	for _, at := range farNumbers {
		crash("torn too far", api.ErrNumber, api.Fate{Kind: api.Torn, At: at})
	}
	fates := []api.Fate{{Kind: 3}}
	printIs(t, "a spare field ahead of a fate", oneStep(api.Op{Kind: api.OpCrash, B: 1, Fates: fates}), "", api.ErrField)
	printIs(t, "a spare field ahead of a fate", oneStep(api.Op{Kind: api.OpCrash, Hi: []byte("h"), Fates: fates}), "", api.ErrField)
}

// TestP23_3Order: of the faults of one step the first one by the chapter's order is told, of those of several steps the first step's.
func TestP23_3Order(t *testing.T) {
	far := 1 << 31
	steps := []struct {
		op  api.Op
		err api.Errno
	}{
		{api.Op{Kind: 0, A: far}, api.ErrWord},
		{api.Op{Kind: api.OpOpen, A: far, B: 1}, api.ErrField},
		{api.Op{Kind: api.OpOpen, A: far, C: far}, api.ErrField},
		{api.Op{Kind: api.OpRange, A: far, Value: []byte("v")}, api.ErrField},
		{api.Op{Kind: api.OpRange, B: far}, api.ErrNumber},
		{api.Op{Kind: api.OpRot, C: -far}, api.ErrNumber},
		{api.Op{Kind: api.OpCrash, Fates: []api.Fate{{Kind: api.Torn, At: far}, {Kind: 5}}}, api.ErrNumber},
		{api.Op{Kind: api.OpCrash, Fates: []api.Fate{{Kind: api.Kept, At: far}}}, api.ErrField},
	}
	for _, x := range steps {
		printIs(t, "one step", oneStep(x.op), "", x.err)
		for _, y := range steps {
			printIs(t, "two steps", api.Script{Ops: []api.Op{{Kind: api.OpView}, x.op, {Kind: api.OpState}, y.op}}, "", x.err)
		}
		printIs(t, "a cap ahead of them", api.Script{Cap: far, Ops: []api.Op{x.op}}, "", api.ErrNumber)
		printIs(t, "too many steps", api.Script{Cap: 9, Ops: append([]api.Op{x.op}, slices.Repeat([]api.Op{{Kind: api.OpView}}, 2000)...)}, "", api.ErrMany)
		printIs(t, "the last step that may be", api.Script{Cap: 9, Ops: append(slices.Repeat([]api.Op{{Kind: api.OpView}}, 1999), x.op)}, "", x.err)
		long := api.Op{Kind: api.OpGet, Key: make([]byte, 600000)}
		printIs(t, "behind a step that is too long", api.Script{Cap: 9, Ops: []api.Op{long, x.op}}, "", x.err)
		printIs(t, "ahead of a step that is too long", api.Script{Cap: 9, Ops: []api.Op{x.op, long}}, "", x.err)
	}
}

// TestP23_3Steps: as many steps as may be, and more.
func TestP23_3Steps(t *testing.T) {
	for _, n := range []int{0, 1, 1999, 2000} {
		s := api.Script{Cap: 9, Ops: slices.Repeat([]api.Op{{Kind: api.OpView}}, n)}
		printIs(t, "steps", s, "coppice 9\n"+strings.Repeat("view\n", n), api.OK)
	}
	for _, n := range []int{2001, 2002, 4000, 100000} {
		s := api.Script{Cap: 9, Ops: slices.Repeat([]api.Op{{Kind: api.OpView}}, n)}
		printIs(t, "too many steps", s, "", api.ErrMany)
		printIs(t, "too many steps that are none", api.Script{Ops: make([]api.Op, n)}, "", api.ErrMany)
	}
}

// TestP23_3Long: a text of as many bytes as may be, and of one more, by each thing that may be long.
func TestP23_3Long(t *testing.T) {
	put := func(k, v int) api.Op {
		return api.Op{Kind: api.OpPut, Key: make([]byte, k), Value: make([]byte, v)}
	}
	is := func(what string, ops ...api.Op) {
		t.Helper()
		for _, x := range []struct{ cap, size int }{{9, 1048576}, {99, 1048577}, {-99, 1048578}} {
			s := api.Script{Cap: x.cap, Ops: ops}
			text, err := script.Print(s)
			if want, e := plainPrint(s); text != want || err != e {
				t.Errorf("%s: Print answers %s, %d, not %s, %d", what, shown(text), err, shown(want), e)
			}
			if (err == api.OK) != (x.size <= 1048576) || err == api.OK && len(text) != x.size {
				t.Errorf("%s: Print of %d bytes is %d, of %d bytes", what, x.size, err, len(text))
			}
		}
	}
	is("a value", put(1, 524279))
	is("a key", put(524279, 1))
	is("a key and a value", put(262140, 262140))
	is("an end", api.Op{Kind: api.OpScan, Key: []byte("a"), Hi: make([]byte, 524277), A: 10})
	is("fates", api.Op{Kind: api.OpCrash, Fates: make([]api.Fate, 524280)})
	is("torn ones", api.Op{Kind: api.OpCrash, Fates: append(make([]api.Fate, 524276), api.Fate{Kind: api.Torn, At: -1}, api.Fate{Kind: api.Torn, At: 22})})
	is("a long step, then another", put(1, 524276), api.Op{Kind: api.OpCheck})
	is("a step, then a long one", api.Op{Kind: api.OpCheck}, put(1, 524276))
	is("two halves", put(1, 262137), put(1, 262138))
	for _, op := range []api.Op{put(0, 524281), put(0, 600000), put(0, 1048576), put(0, 1048577), put(9000000, 9000000), {Kind: api.OpCrash, Fates: make([]api.Fate, 524281)}, {Kind: api.OpCrash, Fates: make([]api.Fate, 2000000)}} {
		printIs(t, "too long", oneStep(op), "", api.ErrMany)
		printIs(t, "too long, and more behind it", api.Script{Ops: []api.Op{op, {Kind: api.OpView}, op}}, "", api.ErrMany)
	}
	many := api.Script{Cap: 9, Ops: slices.Repeat([]api.Op{{Kind: api.OpGet, Key: make([]byte, 259)}}, 2000)}
	printIs(t, "many steps", many, "coppice 9\n"+strings.Repeat("get "+strings.Repeat("00", 259)+"\n", 2000), api.OK)
	many.Ops = slices.Repeat([]api.Op{{Kind: api.OpGet, Key: make([]byte, 260)}}, 2000)
	printIs(t, "many steps, too long together", many, "", api.ErrMany)
}

// spoilt is a script with something by noise in it that may not be.
func spoilt(s api.Script, next func(int) int) api.Script {
	if len(s.Ops) == 0 || next(20) == 0 {
		s.Cap = farNumbers[next(len(farNumbers))]
		return s
	}
	op := &s.Ops[next(len(s.Ops))]
	switch next(6) {
	case 0:
		op.Kind = next(30) - 3
	case 1:
		names := []string{"A", "B", "C", "Key", "Value", "Hi", "Fates"}
		spares()[names[next(7)]](op)
	case 2:
		*[]*int{&op.A, &op.B, &op.C}[next(3)] = farNumbers[next(len(farNumbers))]
	case 3:
		op.Kind, op.Fates = api.OpCrash, append(op.Fates, api.Fate{Kind: next(5) - 1, At: someNumber(next)})
	case 4:
		if len(op.Fates) > 0 {
			op.Fates[next(len(op.Fates))].At = farNumbers[next(len(farNumbers))]
		}
	default:
		*op = api.Op{Kind: api.OpCrash, Fates: []api.Fate{{Kind: next(4), At: someNumber(next)}}}
	}
	return s
}

// TestP23_3Noise: scripts by noise, spoilt a few times over, as the chapter's words say.
func TestP23_3Noise(t *testing.T) {
	next := noise(2330)
	seen := map[api.Errno]int{}
	for range 10000 {
		s := someScript(next, 8)
		for range 3 {
			s = spoilt(s, next)
			seen[asPlainPrint(t, s)]++
		}
	}
	for _, err := range []api.Errno{api.OK, api.ErrWord, api.ErrNumber, api.ErrField} {
		if seen[err] < 100 {
			t.Errorf("the error %d comes %d times", err, seen[err])
		}
	}
}
