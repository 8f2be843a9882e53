package world_test

import (
	"bytes"
	"fmt"
	"math"
	"sync"
	"testing"

	"coppice/api"
	"coppice/disk"
	"coppice/world"
)

// maker makes steps by noise, one behind the other, so that they lead somewhere.
type maker struct {
	next func(int) int
	last api.Event // what the last step told
}

// one is one of a few numbers.
func (m *maker) one(l ...int) int { return l[m.next(len(l))] }

// key is a key, now and then one that may not be.
func (m *maker) key() []byte {
	if m.next(40) == 0 {
		return fill(m.one(0, 1, 254, 255, 256, 1000), m.next(9))
	}
	return []byte{byte('a' + m.next(4)), byte(m.next(12))}
}

// bound is a key, or none.
func (m *maker) bound() []byte {
	if m.next(3) == 0 {
		return nil
	}
	return m.key()
}

// value is a value, short ones more often.
func (m *maker) value() []byte {
	if m.next(300) == 0 {
		return fill(m.one(262144, 262145), m.next(9))
	}
	return fill(m.one(0, 1, 5, 60, 300, 300, 511, 512, 513, 900, 4085, 4086, 9000), m.next(9))
}

// number is a number as a limit or a place may be one.
func (m *maker) number() int {
	if m.next(12) == 0 {
		return m.one(-1, math.MinInt, math.MaxInt, 1<<31-1, 1<<32)
	}
	return m.next(9)
}

// fates are fates of all kinds, and of kinds that are none.
func (m *maker) fates() []api.Fate {
	l := make([]api.Fate, m.next(8))
	for i := range l {
		l[i] = api.Fate{Kind: m.one(api.Lost, api.Kept, api.Kept, api.Torn, api.Torn, 3, -1), At: m.one(0, 1, 20, 2000, 4091, 4092, 4095, 4096, 5000, -7)}
	}
	return l
}

// view is a number that a view may have.
func (m *maker) view() int {
	if m.next(20) == 0 {
		return m.one(-1, math.MinInt, math.MaxInt, 99)
	}
	return m.next(5)
}

// onward is a step that helps on behind an error; of the kind 0, if nothing is in the way.
func (m *maker) onward() api.Op {
	switch {
	case m.last.Code == api.ErrPower, m.last.Code == api.ErrEnded:
		return api.Op{Kind: api.OpCrash, Fates: m.fates()}
	case m.last.Code == api.ErrNoStore, m.last.Kind == api.OpFormat && m.last.Code == api.OK:
		return api.Op{Kind: api.OpOpen, A: 1 + m.next(6)}
	case m.last.Kind == api.OpOpen && m.last.Code != api.OK && m.last.Code != api.ErrOpen:
		return api.Op{Kind: api.OpFormat}
	case m.last.Code == api.ErrFull && m.last.Kind == api.OpCommit:
		return []api.Op{{Kind: api.OpRollback}, {Kind: api.OpClose, A: m.view()}, {Kind: api.OpDelete, Key: m.key()}}[m.next(3)]
	case m.last.Code == api.OK && m.last.Kind == api.OpRot:
		return []api.Op{{Kind: api.OpCheck}, {Kind: api.OpHands, A: 2, B: 99}, {Kind: api.OpDump}, {Kind: api.OpCompact, A: 60}, {Kind: api.OpRead, A: 1, Key: m.key()}, {Kind: api.OpRange, A: 1, B: 99}}[m.next(6)]
	}
	return api.Op{}
}

// kind is a kind, of some more often than of others.
func (m *maker) kind() int {
	if m.next(3) > 0 {
		return m.one(api.OpPut, api.OpPut, api.OpPut, api.OpDelete, api.OpCommit, api.OpCommit, api.OpRead, api.OpView)
	}
	kind := 1 + m.next(22)
	if (kind == api.OpRot || kind == api.OpCompact) && m.next(5) > 0 {
		return api.OpGet
	}
	return kind
}

// any is a step of any kind.
func (m *maker) any() api.Op {
	op := api.Op{Kind: m.kind()}
	switch op.Kind {
	case api.OpOpen:
		op.A = m.one(-1, 0, 1, 2, 3, 4096, 4097)
	case api.OpPut:
		op.Key, op.Value = m.key(), m.value()
	case api.OpDelete, api.OpGet:
		op.Key = m.key()
	case api.OpScan:
		op.Key, op.Hi, op.A = m.bound(), m.bound(), m.number()
	case api.OpRead, api.OpRank:
		op.A, op.Key = m.view(), m.key()
	case api.OpRange:
		op.A, op.Key, op.Hi, op.B = m.view(), m.bound(), m.bound(), m.number()
	case api.OpNth:
		op.A, op.B = m.view(), m.number()
	case api.OpClose:
		op.A = m.view()
	case api.OpArm:
		op.A = m.number()
	case api.OpCrash:
		op.Fates = m.fates()
	case api.OpRot:
		op.A, op.B, op.C = m.one(0, 1, 2, 3, 4, 5, 6, 7, 999, -1), m.one(0, 9, 100, 4091, 4092, 4095, 4096, -1), m.one(1, 2, 128, 255, 1, 0, 256, -1)
	case api.OpHands:
		op.A, op.B = m.one(-1, 0, 1, 2, 3, 16, 17), m.one(-1, 0, 1, 2, 3, 10, 60, math.MaxInt)
	case api.OpCompact:
		op.A = m.one(-1, 1, 2, 3, 9, 60, 60, 524287, 524288)
	}
	return op
}

// spoilt is a step that has something that it should not have.
func (m *maker) spoilt(op api.Op) api.Op {
	switch m.next(9) {
	case 0:
		op.Kind = m.one(0, -1, 23, 24, 99, math.MinInt, math.MaxInt)
	case 1:
		op.Kind = 1 + m.next(22)
	case 2:
		op.A = m.one(1, -1, math.MinInt)
	case 3:
		op.B = m.one(1, -1, math.MaxInt)
	case 4:
		op.C = m.one(1, -1, 1<<32)
	case 5:
		op.Key = fill(m.one(1, 9, 300), 3)
	case 6:
		op.Value = fill(m.one(1, 9, 300), 3)
	case 7:
		op.Hi = fill(m.one(1, 9, 300), 3)
	case 8:
		op.Fates = append(m.fates(), api.Fate{})
	}
	return op
}

// step is the next step.
func (m *maker) step() api.Op {
	if op := m.onward(); op.Kind != 0 && m.next(4) > 0 {
		return op
	}
	op := m.any()
	if m.next(20) == 0 {
		return m.spoilt(op)
	}
	return op
}

// tally counts how often each kind told each error.
type tally struct {
	mu   sync.Mutex
	seen map[[2]int]int
}

// count counts an event.
func (c *tally) count(e api.Event) {
	c.mu.Lock()
	defer c.mu.Unlock()
	c.seen[[2]int{e.Kind, int(e.Code)}]++
}

// playBoth plays steps by noise with a world and a plain one, and asks whether they tell the same.
func playBoth(t *testing.T, seed uint64, steps int, c *tally) {
	t.Helper()
	m := &maker{next: noise(seed)}
	cap := m.one(2, 3, 5, 9, 20, 60, 60, 100)
	w, plain := newWorld(t, cap), newPlain(disk.New(cap))
	for i := range steps {
		op := m.step()
		want, got := plain.step(op), w.Step(op)
		if !sameEvent(got, want) {
			t.Fatalf("seed %d, step %d, %s: %s, not %s", seed, i, told(op), told(got), told(want))
		}
		if line := world.Show(got); line != plainShow(want) {
			t.Fatalf("seed %d, step %d, %s: %.300q, not %.300q", seed, i, told(op), line, plainShow(want))
		}
		if i%20 == 0 || op.Kind == api.OpCrash || op.Kind == api.OpCompact {
			if !bytes.Equal(w.Durable(), plain.disk.Durable()) {
				t.Fatalf("seed %d, step %d, %s: other bytes last", seed, i, told(op))
			}
		}
		c.count(got)
		m.last = got
	}
}

// wanted are the errors that each kind should have told, beside none, unlike fields and no store or one too many.
var wanted = map[int][]api.Errno{
	api.OpFormat:   {123},
	api.OpOpen:     {123, 150, 151, 192, 22},
	api.OpPut:      {41, 180},
	api.OpDelete:   {41, 180},
	api.OpGet:      {41, 180},
	api.OpScan:     {180, 191},
	api.OpCommit:   {123, 170, 180},
	api.OpRollback: {180},
	api.OpView:     {180},
	api.OpRead:     {22, 41, 180, 190, 243},
	api.OpRange:    {22, 180, 190, 191, 243},
	api.OpNth:      {110, 180, 190, 243},
	api.OpRank:     {180, 190, 243},
	api.OpClose:    {243},
	api.OpArm:      {123, 124},
	api.OpRot:      {121, 124},
	api.OpCheck:    {22, 150},
	api.OpHands:    {22, 150, 160, 161},
	api.OpDump:     {22, 150},
	api.OpCompact:  {22, 120, 150, 170},
}

// TestP24_4Noise: worlds by noise tell what the chapter's words say, each kind of step, with each error.
func TestP24_4Noise(t *testing.T) {
	c := &tally{seen: map[[2]int]int{}}
	t.Run("play", func(t *testing.T) {
		for part := range 8 {
			t.Run(fmt.Sprint(part), func(t *testing.T) {
				t.Parallel()
				for seed := range uint64(60) {
					playBoth(t, seed*8+uint64(part), 300, c)
				}
			})
		}
	})
	for kind := 1; kind <= 22; kind++ {
		l := append([]api.Errno{0, 244}, wanted[kind]...)
		if plainRows[kind].with {
			l = append(l, 241)
		}
		if plainRows[kind].without {
			l = append(l, 242)
		}
		for _, err := range l {
			if c.seen[[2]int{kind, int(err)}] == 0 {
				t.Errorf("%s never tells %d", plainRows[kind].word, err)
			}
		}
	}
}
