package store_test

import (
	"fmt"
	"maps"
	"testing"

	"coppice/api"
	"coppice/check"
	"coppice/disk"
	"coppice/store"
)

// comesUp asks that a file is accepted, and tells which map it says, by a store that is opened over it and by a view.
func comesUp(t *testing.T, what string, d *disk.Disk) plain {
	t.Helper()
	if at, err := check.Check(d.Durable()); at != 0 || err != api.OK {
		t.Fatalf("%s: refused with %d at %d", what, err, at)
	}
	done := d.Done()
	s := opened(t, d, 1)
	m := mapOf(t, d.Durable())
	says(t, what, s, m)
	v, _ := s.View()
	if l, err := v.Scan(nil, nil, all); err != api.OK || !samePairs(l, m.within("", "", all)) {
		t.Fatalf("%s: a view: %d", what, err)
	}
	if d.Done() != done || len(d.Pending()) != 0 {
		t.Fatalf("%s: opening has written something", what)
	}
	return m
}

// crashes counts what comes up of a file and changes to it, if the power fails at each Write and Sync of the Commit, with all fates, torn at the given bytes too.
func crashes(t *testing.T, file []byte, change func(s *store.Store), tears ...int) (n, old, new int) {
	t.Helper()
	fates := []api.Fate{{Kind: api.Lost}, {Kind: api.Kept}}
	for _, at := range tears {
		fates = append(fates, api.Fate{Kind: api.Torn, At: at})
	}
	before := mapOf(t, file)
	for k := 1; ; k++ {
		for way, ways := 0, 1; way < ways; way++ {
			d := image(t, 60, file)
			s := opened(t, d, 1)
			change(s)
			after := plain{}
			l, _ := s.Scan(nil, nil, all)
			for _, p := range l {
				after[string(p.Key)] = string(p.Value)
			}
			d.Arm(k)
			err := s.Commit()
			if err == api.OK {
				return n, old, new
			}
			if err != api.ErrPower {
				t.Fatalf("Commit: %d", err)
			}
			ways = 1
			var given []api.Fate
			for rest := way; len(given) < len(d.Pending()); rest /= len(fates) {
				given = append(given, fates[rest%len(fates)])
				ways *= len(fates)
			}
			d.Crash(given)
			n++
			switch m := comesUp(t, fmt.Sprint("at ", k, ", fates ", given), d); {
			case maps.Equal(m, before):
				old++
			case maps.Equal(m, after):
				new++
			default:
				t.Fatalf("at %d, fates %v: another map comes up", k, given)
			}
		}
	}
}

// TestP19_10All: all crashes of small commits; how many there are the chapter on them tells.
func TestP19_10All(t *testing.T) {
	t.Parallel()
	put := func(s *store.Store) { s.Put([]byte("a"), []byte("x")) }
	file := blank(t, 9).Durable()
	if n, old, new := crashes(t, file, put); n != 14 || old != 12 || new != 2 {
		t.Errorf("%d crashes, %d old, %d new", n, old, new)
	}
	if n, old, new := crashes(t, file, put, 100); n != 27 || old != 25 || new != 2 {
		t.Errorf("torn: %d crashes, %d old, %d new", n, old, new)
	}
	nothing := func(s *store.Store) { s.Put([]byte("a"), nil); s.Delete([]byte("a")) }
	if n, _, _ := crashes(t, file, nothing, 100); n != 0 {
		t.Errorf("nothing is changed: %d crashes", n)
	}
	b := newBench(t, 60, 1, file)
	b.put("a", fill(600, 1))
	b.commit()
	b.put("b", fill(500, 1))
	b.commit()
	for _, change := range []func(s *store.Store){
		func(s *store.Store) { s.Delete([]byte("a")) },
		func(s *store.Store) { s.Put([]byte("a"), []byte("y")); s.Put([]byte("c"), nil) },
		func(s *store.Store) { s.Put([]byte("c"), []byte(fill(700, 3))) },
	} {
		if _, old, new := crashes(t, b.d.Durable(), change, 64); old == 0 || new == 0 {
			t.Errorf("%d old, %d new", old, new)
		}
	}
}

// fates are fates by noise for what pends.
func fates(next func(int) int, pends int) []api.Fate {
	var l []api.Fate
	for range next(pends + 1) {
		l = append(l, api.Fate{Kind: next(3), At: next(api.PageSize + 1)})
	}
	return l
}

// TestP19_10Row: on one disk stores one behind the other, each with views and several commits till its power fails.
func TestP19_10Row(t *testing.T) {
	for i, sizes := range [][]int{{0, 3, 40}, {400, 512}, {0, 513, 4086, 9000}} {
		t.Run(fmt.Sprint(sizes), func(t *testing.T) {
			t.Parallel()
			next := noise(uint64(1910 + i))
			d := blank(t, 200)
			last, came := plain{}, 0
			for round := range 60 {
				s := opened(t, d, 1+next(4))
				says(t, "Open", s, last)
				d.Arm(1 + next(60))
				work, under := maps.Clone(last), false
				for !under {
					last, under = until(t, next, d, s, last, work, sizes)
				}
				d.Crash(fates(next, len(d.Pending())))
				m := comesUp(t, fmt.Sprint("round ", round), d)
				if maps.Equal(m, work) && !maps.Equal(work, last) {
					came++
				} else if !maps.Equal(m, last) {
					t.Fatalf("round %d: another map comes up", round)
				}
				last = m
			}
			if came == 0 {
				t.Error("no Commit at which the power failed came up")
			}
		})
	}
}

// until changes a store, and commits: what was committed last, and whether the power failed. A Commit for which there is no room is taken back.
func until(t *testing.T, next func(int) int, d *disk.Disk, s *store.Store, last, work plain, sizes []int) (plain, bool) {
	t.Helper()
	var views []*store.View
	if next(2) == 0 {
		v, _ := s.View()
		views = append(views, v)
	}
	for range 1 + next(10) {
		key := some(next)
		if next(3) == 0 {
			s.Delete([]byte(key))
			delete(work, key)
		} else {
			work[key] = fill(sizes[next(len(sizes))], next(256))
			s.Put([]byte(key), []byte(work[key]))
		}
	}
	fits := s.Need() <= s.Room()
	err := s.Commit()
	switch {
	case fits && err == api.OK:
		for _, v := range views {
			if l, e := v.Scan(nil, nil, all); e != api.OK || !samePairs(l, last.within("", "", all)) {
				t.Fatalf("a view: %d", e)
			}
			if next(3) > 0 {
				v.Close()
			}
		}
		return maps.Clone(work), false
	case fits && err == api.ErrPower:
		ended(t, "Commit", d, s, views...)
		return last, true
	case !fits && err == api.ErrFull:
		s.Rollback()
		clear(work)
		maps.Copy(work, last)
		for _, v := range views {
			v.Close()
		}
		// So that there is room again, and the power fails some time.
		for _, p := range work.within("", "", len(work)/2) {
			s.Delete(p.Key)
			delete(work, string(p.Key))
		}
		if s.Need() > s.Room() {
			d.Arm(1)
			d.Sync()
			return last, true
		}
		if err := s.Commit(); err != api.OK {
			return last, err == api.ErrPower
		}
		return maps.Clone(work), false
	}
	t.Fatalf("Commit: %d, there is room: %v", err, fits)
	return nil, false
}

// TestP19_10Between: the power fails while no Commit is under way: what was not committed is gone, all else is there.
func TestP19_10Between(t *testing.T) {
	d := image(t, 300, rich(t))
	m := mapOf(t, d.Durable())
	s := opened(t, d, 2)
	s.Put([]byte("n"), []byte("new"))
	d.Crash(nil)
	if !maps.Equal(comesUp(t, "a Crash", d), m) {
		t.Error("what was not committed is there")
	}
	s = opened(t, d, 2)
	s.Put([]byte("n"), []byte("new"))
	m["n"] = "new"
	if err := s.Commit(); err != api.OK {
		t.Fatalf("Commit: %d", err)
	}
	s.Delete([]byte("n"))
	d.Crash([]api.Fate{{Kind: api.Torn, At: 5}})
	if !maps.Equal(comesUp(t, "a Crash", d), m) {
		t.Error("what was committed is gone")
	}
}
