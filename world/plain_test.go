package world_test

import (
	"bytes"
	"fmt"
	"slices"
	"strings"
	"testing"

	"coppice/api"
	"coppice/bulk"
	"coppice/check"
	"coppice/disk"
	"coppice/dump"
	"coppice/hands"
	"coppice/store"
	"coppice/world"
)

// noise tells numbers from 0 on, below the one it is given; the same ones for the same seed.
func noise(seed uint64) func(n int) int {
	return func(n int) int {
		seed = seed*6364136223846793005 + 1442695040888963407
		return int((seed >> 33) % uint64(n))
	}
}

// fill is n bytes, of all kinds.
func fill(n, seed int) []byte {
	b := make([]byte, n)
	for i := range b {
		b[i] = byte(i*7 + i>>8 + seed)
	}
	return b
}

// samePairs tells whether two lists have the same pairs.
func samePairs(a, b []api.Pair) bool {
	return slices.EqualFunc(a, b, func(x, y api.Pair) bool {
		return bytes.Equal(x.Key, y.Key) && bytes.Equal(x.Value, y.Value)
	})
}

// sameEvent tells whether two events are the same, nil and empty being the same.
func sameEvent(x, y api.Event) bool {
	return x.Kind == y.Kind && x.Code == y.Code && x.A == y.A && x.B == y.B && x.Found == y.Found && bytes.Equal(x.Value, y.Value) && samePairs(x.Pairs, y.Pairs) && x.State == y.State && x.Text == y.Text
}

// told is a step or an event as it may stand in a message.
func told(x any) string {
	text := fmt.Sprintf("%+v", x)
	return text[:min(len(text), 300)]
}

// stepIs asks what a step tells.
func stepIs(t *testing.T, w *world.World, op api.Op, want api.Event) {
	t.Helper()
	want.Kind = op.Kind
	if got := w.Step(op); !sameEvent(got, want) {
		t.Errorf("Step(%s) tells %s, not %s", told(op), told(got), told(want))
	}
}

// fails asks whether a step tells an error, and nothing else; and the world's bytes are as they were.
func fails(t *testing.T, w *world.World, op api.Op, err api.Errno) {
	t.Helper()
	was := w.Durable()
	stepIs(t, w, op, api.Event{Code: err})
	if !bytes.Equal(was, w.Durable()) {
		t.Errorf("Step(%s) has changed what lasts", told(op))
	}
}

// does makes steps that are to tell no error.
func does(t *testing.T, w *world.World, ops ...api.Op) {
	t.Helper()
	for _, op := range ops {
		if e := w.Step(op); e.Code != api.OK {
			t.Fatalf("Step(%s) tells the error %d", told(op), e.Code)
		}
	}
}

// newWorld is a world with nothing on its disk.
func newWorld(t *testing.T, cap int) *world.World {
	t.Helper()
	w := world.New(cap)
	if w == nil {
		t.Fatalf("there is no world of cap %d", cap)
	}
	return w
}

// opened is a world with a store over a new file, with one frame.
func opened(t *testing.T, cap int) *world.World {
	t.Helper()
	w := newWorld(t, cap)
	does(t, w, api.Op{Kind: api.OpFormat}, api.Op{Kind: api.OpOpen, A: 1})
	return w
}

// put is the step that puts a value of so many bytes.
func put(key string, size int) api.Op {
	return api.Op{Kind: api.OpPut, Key: []byte(key), Value: fill(size, len(key))}
}

// runIs asks what a script tells, line by line.
func runIs(t *testing.T, text string, want ...string) {
	t.Helper()
	l, line, err := world.Run(text)
	if line != 0 || err != api.OK || len(l) != len(want) {
		t.Fatalf("Run of %.300q: %d lines, %d at line %d", text, len(l), err, line)
	}
	for i := range want {
		if l[i] != want[i] {
			t.Errorf("Run of %.300q: step %d tells %.300q, not %.300q", text, i+1, l[i], want[i])
		}
	}
}

// plainRow is the word of a kind, the fields that it uses, and whether it needs a store, or none.
type plainRow struct {
	word, fields string
	with         bool
	without      bool
}

// plainRows are the kinds, from 1 on, as the chapters 23 and 24 have them.
var plainRows = []plainRow{
	{word: "?"},
	{word: "format", without: true},
	{word: "open", fields: "A", without: true},
	{word: "put", fields: "Key Value", with: true},
	{word: "delete", fields: "Key", with: true},
	{word: "get", fields: "Key", with: true},
	{word: "scan", fields: "Key Hi A", with: true},
	{word: "commit", with: true},
	{word: "rollback", with: true},
	{word: "view", with: true},
	{word: "read", fields: "A Key", with: true},
	{word: "range", fields: "A Key Hi B", with: true},
	{word: "nth", fields: "A B", with: true},
	{word: "rank", fields: "A Key", with: true},
	{word: "close", fields: "A", with: true},
	{word: "arm", fields: "A"},
	{word: "crash", fields: "Fates"},
	{word: "rot", fields: "A B C"},
	{word: "check"},
	{word: "hands", fields: "A B"},
	{word: "state", with: true},
	{word: "dump"},
	{word: "compact", fields: "A"},
}

// uses tells whether a kind uses a field.
func uses(kind int, field string) bool {
	return slices.Contains(strings.Fields(plainRows[kind].fields), field)
}

// set are the fields of a step that are not zero.
func set(op api.Op) []string {
	var l []string
	for _, f := range []struct {
		name string
		is   bool
	}{{"A", op.A != 0}, {"B", op.B != 0}, {"C", op.C != 0}, {"Key", len(op.Key) > 0}, {"Value", len(op.Value) > 0}, {"Hi", len(op.Hi) > 0}, {"Fates", len(op.Fates) > 0}} {
		if f.is {
			l = append(l, f.name)
		}
	}
	return l
}

// plainWorld is a world as the chapter's words say.
type plainWorld struct {
	disk  *disk.Disk
	store *store.Store
	views map[int]*store.View
}

// newPlain is the plain world of a disk.
func newPlain(d *disk.Disk) *plainWorld { return &plainWorld{disk: d, views: map[int]*store.View{}} }

// refusal is what a step is refused with ahead of anything being done.
func (w *plainWorld) refusal(op api.Op) api.Errno {
	if op.Kind < 1 || op.Kind > 22 {
		return 240
	}
	for _, field := range set(op) {
		if !uses(op.Kind, field) {
			return 244
		}
	}
	row := plainRows[op.Kind]
	if row.with && w.store == nil {
		return 241
	}
	if row.without && w.store != nil {
		return 242
	}
	if slices.Contains([]string{"read", "range", "nth", "rank", "close"}, row.word) && w.views[op.A] == nil {
		return 243
	}
	return 0
}

// step does a step.
func (w *plainWorld) step(op api.Op) api.Event {
	e := api.Event{Kind: op.Kind, Code: w.refusal(op)}
	if e.Code != 0 {
		return e
	}
	if op.Kind >= 3 && op.Kind <= 9 || op.Kind == 20 {
		w.askStore(op, &e)
	} else if op.Kind >= 10 && op.Kind <= 14 {
		w.askView(op, &e)
	} else {
		w.rest(op, &e)
	}
	return e
}

// askStore does a step of the store.
func (w *plainWorld) askStore(op api.Op, e *api.Event) {
	switch op.Kind {
	case 3:
		e.Code = w.store.Put(op.Key, op.Value)
	case 4:
		e.Found, e.Code = w.store.Delete(op.Key)
	case 5:
		e.Value, e.Found, e.Code = w.store.Get(op.Key)
	case 6:
		e.Pairs, e.Code = w.store.Scan(op.Key, op.Hi, op.A)
	case 7:
		e.Code = w.store.Commit()
	case 8:
		e.Code = w.store.Rollback()
	case 9:
		var v *store.View
		if v, e.Code = w.store.View(); e.Code == 0 {
			e.A = len(w.views) + 1
			e.B = v.Version()
			w.views[e.A] = v
		}
	case 20:
		e.State, e.A, e.B = w.store.State(), w.store.Need(), w.store.Room()
	}
}

// askView does a step of a view.
func (w *plainWorld) askView(op api.Op, e *api.Event) {
	v := w.views[op.A]
	switch op.Kind {
	case 10:
		e.Value, e.Found, e.Code = v.Get(op.Key)
	case 11:
		e.Pairs, e.Code = v.Scan(op.Key, op.Hi, op.B)
	case 12:
		var p api.Pair
		if p, e.Code = v.Nth(op.B); e.Code == 0 {
			e.Pairs = append(e.Pairs, p)
		}
	case 13:
		e.A, e.Code = v.Rank(op.Key)
	case 14:
		e.Found = v.Close()
	}
}

// rest does every other step.
func (w *plainWorld) rest(op api.Op, e *api.Event) {
	switch op.Kind {
	case 1:
		e.Code = store.Format(w.disk)
	case 2:
		w.store, e.A, e.Code = store.Open(w.disk, op.A)
	case 15:
		e.Code = w.disk.Arm(op.A)
	case 16:
		e.A = len(w.disk.Pending())
		w.disk.Crash(op.Fates)
		e.B = w.disk.Pages()
		*w = *newPlain(w.disk)
	case 17:
		e.Code = w.disk.Rot(op.A, op.B, op.C)
	case 18:
		e.A, e.Code = check.Check(w.disk.Durable())
	case 19:
		e.A, e.Code = hands.Check(w.disk.Durable(), op.A, op.B)
	case 21:
		e.Text, e.A, e.Code = dump.File(w.disk.Durable())
	case 22:
		d := disk.New(op.A)
		if d == nil {
			e.Code = 120
			return
		}
		if e.A, e.Code = bulk.Compact(w.disk.Durable(), d); e.Code == 0 {
			e.B = d.Pages()
			*w = *newPlain(d)
		}
	}
}

// plainHex is bytes in hex.
func plainHex(b []byte) string {
	if len(b) == 0 {
		return "-"
	}
	return fmt.Sprintf("%x", b)
}

// plainShow is an event's line as the chapter's words say.
func plainShow(e api.Event) string {
	word := "?"
	if e.Kind >= 1 && e.Kind <= 22 {
		word = plainRows[e.Kind].word
	}
	line := word
	if e.Code != 0 {
		line += fmt.Sprintf(" error %d", int(e.Code))
	}
	if strings.Contains(" open check hands dump compact ", " "+word+" ") {
		line += fmt.Sprintf(" page %d", e.A)
	}
	if e.Code == 0 {
		line += plainRest(e, word)
	}
	return line
}

// plainRest is what a line has that tells no error.
func plainRest(e api.Event, word string) string {
	switch word {
	case "delete", "get", "read", "close":
		line := map[bool]string{true: " found", false: " none"}[e.Found]
		if e.Found && (word == "get" || word == "read") {
			line += " " + plainHex(e.Value)
		}
		return line
	case "scan", "range", "nth":
		line := ""
		for _, p := range e.Pairs {
			line += " " + plainHex(p.Key) + "=" + plainHex(p.Value)
		}
		return line
	case "view":
		return fmt.Sprintf(" %d version %d", e.A, e.B)
	case "rank":
		return fmt.Sprintf(" %d", e.A)
	case "crash":
		return fmt.Sprintf(" pended %d pages %d", e.A, e.B)
	case "compact":
		return fmt.Sprintf(" pages %d", e.B)
	case "state":
		s := e.State
		changed := map[bool]string{true: "changed", false: "same"}[s.Changed]
		return fmt.Sprintf(" version %d count %d free %d keys %d height %d %s need %d room %d", s.Version, s.Count, s.Free, s.Keys, s.Height, changed, e.A, e.B)
	case "dump":
		return fmt.Sprintf(" bytes %d", len(e.Text))
	}
	return ""
}
