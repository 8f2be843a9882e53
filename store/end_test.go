package store_test

import (
	"bytes"
	"fmt"
	"math"
	"testing"

	"coppice/api"
	"coppice/disk"
	"coppice/store"
)

// ended asks that a store and its views answer what they do when it has ended, whatever they are asked, and that nothing is done.
func ended(t *testing.T, what string, d *disk.Disk, s *store.Store, views ...*store.View) {
	t.Helper()
	reads, done, pends, file := d.Reads(), d.Done(), len(d.Pending()), d.Durable()
	asked := func(call string, err api.Errno, nothing bool) {
		t.Helper()
		if err != api.ErrEnded || !nothing {
			t.Errorf("%s: %s: %d, nothing beside it: %v", what, call, err, nothing)
		}
	}
	for range 2 {
		for _, key := range [][]byte{[]byte("a"), nil, make([]byte, 300)} {
			value, has, err := s.Get(key)
			asked("Get", err, len(value) == 0 && !has)
			asked("Put", s.Put(key, key), true)
			had, err := s.Delete(key)
			asked("Delete", err, !had)
			for _, v := range views {
				value, has, err := v.Get(key)
				asked("a view's Get", err, len(value) == 0 && !has)
				n, err := v.Rank(key)
				asked("a view's Rank", err, n == 0)
			}
		}
		for _, i := range []int{5, 0, -1, math.MinInt} {
			l, err := s.Scan(nil, nil, i)
			asked("Scan", err, len(l) == 0)
			for _, v := range views {
				l, err := v.Scan(nil, nil, i)
				asked("a view's Scan", err, len(l) == 0)
				p, err := v.Nth(i)
				asked("a view's Nth", err, len(p.Key)+len(p.Value) == 0)
			}
		}
		asked("Commit", s.Commit(), true)
		asked("Rollback", s.Rollback(), true)
		v, err := s.View()
		asked("View", err, v == nil)
		if s.Need() != 0 || s.Room() != 0 || s.State() != (api.State{}) {
			t.Errorf("%s: need %d, room %d, %+v", what, s.Need(), s.Room(), s.State())
		}
		for _, v := range views {
			if v.Version() != 0 || v.Close() {
				t.Errorf("%s: a view has a version, or can be closed", what)
			}
		}
	}
	if d.Reads() != reads || d.Done() != done || len(d.Pending()) != pends || !bytes.Equal(d.Durable(), file) {
		t.Errorf("%s: something was done at the disk", what)
	}
}

// TestEndedByCommit: the power fails at each Write and Sync of a Commit; a view that was closed ahead of it is told the same.
func TestEndedByCommit(t *testing.T) {
	file := rich(t)
	for k := 1; ; k++ {
		d := image(t, 300, file)
		s := opened(t, d, 4)
		open, _ := s.View()
		shut, _ := s.View()
		shut.Close()
		s.Put([]byte("b"), []byte(fill(600, 1)))
		n := s.Need() + 4
		d.Arm(k)
		err := s.Commit()
		if k > n {
			if err != api.OK || s.State().Changed || open.Version() == 0 {
				t.Errorf("the power doesn't fail: %d, %+v", err, s.State())
			}
			return
		}
		if err != api.ErrPower || d.Done() != k {
			t.Fatalf("the power fails at %d of %d: %d", k, n, err)
		}
		ended(t, fmt.Sprint("at ", k), d, s, open, shut)
	}
}

// TestEndedByView: each call of a view that reads meets the power's failing, ends the store, and all its views with it.
func TestEndedByView(t *testing.T) {
	file := rich(t)
	for name, ask := range map[string]func(v *store.View) (bool, api.Errno){
		"Get": func(v *store.View) (bool, api.Errno) {
			b, has, err := v.Get([]byte("a"))
			return len(b) == 0 && !has, err
		},
		"Scan": func(v *store.View) (bool, api.Errno) { l, err := v.Scan(nil, nil, 9); return len(l) == 0, err },
		"Rank": func(v *store.View) (bool, api.Errno) { n, err := v.Rank([]byte("z")); return n == 0, err },
		"Nth":  func(v *store.View) (bool, api.Errno) { p, err := v.Nth(3); return len(p.Key) == 0, err },
	} {
		d := image(t, 300, file)
		s := opened(t, d, 4)
		v, _ := s.View()
		w, _ := s.View()
		s.Put([]byte("n"), []byte("new"))
		d.Arm(1)
		d.Sync()
		if nothing, err := ask(v); !nothing || err != api.ErrPower {
			t.Errorf("%s: %d", name, err)
		}
		ended(t, name, d, s, v, w)
		d.Crash(nil)
		ended(t, name+", the power is on again", d, s, v, w)
	}
}

// TestEndedHeld: with the power off a view tells what the cache holds; the first page that it does not hold ends the store.
func TestEndedHeld(t *testing.T) {
	d := image(t, 300, rich(t))
	m := mapOf(t, d.Durable())
	s := opened(t, d, api.MaxFrames)
	v, _ := s.View()
	if l, err := v.Scan([]byte("c"), nil, 9); err != api.OK || !samePairs(l, m.within("c", "", 9)) {
		t.Fatalf("Scan: %d", err)
	}
	d.Arm(1)
	d.Sync()
	if l, err := v.Scan([]byte("c"), nil, 9); err != api.OK || !samePairs(l, m.within("c", "", 9)) {
		t.Errorf("what is held: %d", err)
	}
	if value, has, err := s.Get([]byte("not there")); value != nil || has || err != api.OK || v.Version() == 0 {
		t.Errorf("Get: %d", err)
	}
	if l, err := v.Scan(nil, nil, all); len(l) > 0 || err != api.ErrPower {
		t.Errorf("what is not held: %d", err)
	}
	ended(t, "Scan", d, s, v)
}

// TestEndedNot: errors but ErrPower end nothing, and Format's and Open's of another disk neither.
func TestEndedNot(t *testing.T) {
	b := newBench(t, 5, 1, blank(t, 5).Durable())
	x := b.view()
	other := blank(t, 5)
	other.Arm(1)
	if err := store.Format(other); err != api.ErrPower {
		t.Errorf("Format: %d", err)
	}
	if s, _, err := store.Open(other, 1); s != nil || err != api.ErrPower {
		t.Errorf("Open: %d", err)
	}
	b.put("", "")
	b.get("")
	b.delete("")
	b.scan("", "", -1)
	b.span(x, "", "", -1)
	b.nth(x, 0)
	b.put("a", fill(99999, 1))
	b.commit()
	if b.full != 1 {
		t.Error("there was room")
	}
	b.tells(x)
	b.put("a", "x")
	b.commit()
	b.tells(x)
}
