package world_test

import (
	"bytes"
	"fmt"
	"slices"
	"strings"
	"sync"
	"testing"

	"coppice/api"
	"coppice/script"
	"coppice/world"
)

// steps are steps by noise, and what a world of cap 60 tells at each.
func steps(t *testing.T, seed uint64, n int) ([]api.Op, []api.Event) {
	t.Helper()
	m := &maker{next: noise(seed)}
	w := newWorld(t, 60)
	var ops []api.Op
	var events []api.Event
	for range n {
		op := m.step()
		m.last = w.Step(op)
		ops, events = append(ops, op), append(events, twinOf(m.last))
	}
	return ops, events
}

// TestP24_9Worlds: worlds whose steps come by turns, and at the same time, tell what each tells alone.
func TestP24_9Worlds(t *testing.T) {
	for seed := range uint64(20) {
		x, toldX := steps(t, seed*2, 150)
		y, toldY := steps(t, seed*2+1, 150)
		v, w := newWorld(t, 60), newWorld(t, 60)
		for i := range x {
			stepIs(t, v, x[i], toldX[i])
			stepIs(t, w, y[i], toldY[i])
		}
	}
	x, want := steps(t, 249, 150)
	var all sync.WaitGroup
	for range 8 {
		all.Go(func() {
			w := world.New(60)
			for i, op := range x {
				if e := w.Step(op); !sameEvent(e, want[i]) {
					t.Errorf("Step(%s) tells %s, not %s", told(op), told(e), told(want[i]))
				}
			}
		})
	}
	all.Wait()
}

// TestP24_9Behind: what a script tells up to a step is the same, whatever comes behind it, and if nothing does.
func TestP24_9Behind(t *testing.T) {
	for seed := range uint64(20) {
		next := noise(seed + 2490)
		s, want := someScript(t, seed, 60)
		other, _ := someScript(t, seed+999, 30)
		for range 10 {
			n := next(len(s.Ops) + 1)
			for _, ops := range [][]api.Op{s.Ops[:n], slices.Concat(s.Ops[:n], other.Ops)} {
				text, err := script.Print(api.Script{Cap: s.Cap, Ops: ops})
				if err != api.OK {
					t.Fatalf("Print: %d", err)
				}
				l, _, _ := world.Run(text)
				if len(l) != len(ops) || !slices.Equal(l[:n], want[:n]) {
					t.Errorf("seed %d: the first %d steps tell something else", seed, n)
				}
			}
		}
	}
}

// whole is what a world should tell of its maps, while nothing decays.
type whole struct {
	base, work map[string]string
	making     map[string]string // by the Commit at which the power failed; nil: there was none
	views      []map[string]string
}

// textOf is the text of a map.
func textOf(m map[string]string) string {
	text := fmt.Sprintf("coppice %d\n", len(m))
	for _, p := range listOf(m) {
		text += plainHex(p.Key) + " " + plainHex(p.Value) + "\n"
	}
	return text
}

// listOf are the pairs of a map by rising keys.
func listOf(m map[string]string) []api.Pair {
	var l []api.Pair
	for key, value := range m {
		l = append(l, api.Pair{Key: []byte(key), Value: []byte(value)})
	}
	slices.SortFunc(l, func(a, b api.Pair) int { return bytes.Compare(a.Key, b.Key) })
	return l
}

// copied is a copy of a map.
func copied(m map[string]string) map[string]string {
	c := map[string]string{}
	for key, value := range m {
		c[key] = value
	}
	return c
}

// done takes over what a step did.
func (x *whole) done(op api.Op, e api.Event) {
	switch {
	case op.Kind == api.OpCommit && e.Code == api.ErrPower:
		x.making = x.work
	case e.Code != api.OK:
	case op.Kind == api.OpPut:
		x.work[string(op.Key)] = string(op.Value)
	case op.Kind == api.OpDelete:
		delete(x.work, string(op.Key))
	case op.Kind == api.OpCommit:
		x.base = copied(x.work)
	case op.Kind == api.OpRollback:
		x.work = copied(x.base)
	case op.Kind == api.OpView:
		x.views = append(x.views, x.base)
	}
}

// tells asks whether an event is what the maps say.
func (x *whole) tells(op api.Op, e api.Event) bool {
	if e.Code != api.OK {
		return true
	}
	switch op.Kind {
	case api.OpGet, api.OpDelete:
		value, is := x.work[string(op.Key)]
		return e.Found == is && (op.Kind == api.OpDelete || string(e.Value) == value)
	case api.OpRead:
		value, is := x.views[op.A-1][string(op.Key)]
		return e.Found == is && string(e.Value) == value
	case api.OpScan:
		return samePairs(e.Pairs, listOf(x.work))
	case api.OpRange:
		return samePairs(e.Pairs, listOf(x.views[op.A-1]))
	case api.OpDump:
		return e.Text == textOf(x.base) || x.making != nil && e.Text == textOf(x.making)
	}
	return true
}

// some is a step by noise of those that the maps can be asked of.
func (x *whole) some(m *maker) api.Op {
	switch kind := m.one(api.OpPut, api.OpPut, api.OpPut, api.OpDelete, api.OpGet, api.OpScan, api.OpCommit, api.OpRollback, api.OpView, api.OpRead, api.OpRange, api.OpClose, api.OpArm, api.OpCheck, api.OpDump); kind {
	case api.OpPut:
		return api.Op{Kind: kind, Key: m.key(), Value: m.value()}
	case api.OpDelete, api.OpGet:
		return api.Op{Kind: kind, Key: m.key()}
	case api.OpScan:
		return api.Op{Kind: kind, A: 1 << 30}
	case api.OpRead:
		return api.Op{Kind: kind, A: 1 + m.next(len(x.views)+1), Key: m.key()}
	case api.OpRange:
		return api.Op{Kind: kind, A: 1 + m.next(len(x.views)+1), B: 1 << 30}
	case api.OpClose:
		return api.Op{Kind: kind, A: 1 + m.next(len(x.views)+1)}
	case api.OpArm:
		return api.Op{Kind: kind, A: m.next(12)}
	default:
		return api.Op{Kind: kind}
	}
}

// crash lets the power fail, or a new file be made of the old one, and opens a store again: the map is the base's, or that of the Commit that was under way.
func (x *whole) crash(t *testing.T, w *world.World, m *maker) {
	t.Helper()
	if m.next(6) > 0 {
		does(t, w, api.Op{Kind: api.OpCrash, Fates: m.fates()})
	} else {
		does(t, w, api.Op{Kind: api.OpCompact, A: 700})
	}
	e := w.Step(api.Op{Kind: api.OpDump})
	if e.Code != api.OK || !x.tells(api.Op{Kind: api.OpDump}, e) {
		t.Fatalf("behind a crash: the error %d, or another map", e.Code)
	}
	if x.making != nil && e.Text == textOf(x.making) {
		x.base = x.making
	}
	*x = whole{base: x.base, work: copied(x.base)}
	does(t, w, api.Op{Kind: api.OpOpen, A: 1 + m.next(9)})
}

// play plays steps by noise, and asks at each whether the world tells what the maps say.
func (x *whole) play(t *testing.T, w *world.World, m *maker, counts map[string]int) {
	t.Helper()
	for range 300 {
		op := x.some(m)
		st := w.Step(api.Op{Kind: api.OpState})
		e := w.Step(op)
		if !x.tells(op, e) {
			t.Fatalf("Step(%s) tells %s, which is not what the map has", told(op), told(e))
		}
		if op.Kind == api.OpCommit && e.Code != api.ErrPower && (e.Code == api.ErrFull) != (st.A > st.B) {
			t.Fatalf("need %d, room %d: Commit tells %d", st.A, st.B, e.Code)
		}
		x.done(op, e)
		counts[strings.Split(world.Show(e), " page")[0]]++
		if e.Code == api.ErrPower || m.next(60) == 0 {
			x.crash(t, w, m)
		}
	}
}

// TestWhole: whatever is done, while nothing decays, a plain map would tell the same, a view the map of its version, and behind a crash the file says the map of the last Commit or that of the one under way (P0.7, P0.8, P0.10, P0.11).
func TestWhole(t *testing.T) {
	counts := map[string]int{}
	for seed := range uint64(60) {
		m := &maker{next: noise(seed + 2491)}
		x := &whole{base: map[string]string{}, work: map[string]string{}}
		x.play(t, opened(t, m.one(9, 20, 60, 300)), m, counts)
	}
	for _, line := range []string{"commit", "commit error 123", "commit error 170", "read none", "delete found", "close found", "check", "get error 41"} {
		if counts[line] < 10 {
			t.Errorf("%q is told %d times", line, counts[line])
		}
	}
}
