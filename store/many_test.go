package store_test

import (
	"fmt"
	"sync"
	"testing"

	"coppice/api"
	"coppice/store"
)

// TestLockPuts: goroutines lay pairs into one store at the same time: each call is done whole, so none is lost.
func TestLockPuts(t *testing.T) {
	const hands, each = 8, 200
	d := blank(t, 900)
	s := opened(t, d, 2)
	var wg sync.WaitGroup
	for h := range hands {
		wg.Go(func() {
			for i := range each {
				if err := s.Put([]byte(fmt.Sprint(h, " ", i)), []byte(fill(h*40, i))); err != api.OK {
					t.Errorf("Put: %d", err)
				}
				if i%50 == 0 {
					s.Commit()
				}
			}
		})
	}
	wg.Wait()
	m := plain{}
	for h := range hands {
		for i := range each {
			m[fmt.Sprint(h, " ", i)] = fill(h*40, i)
		}
	}
	says(t, "all", s, m)
	if err := s.Commit(); err != api.OK {
		t.Errorf("Commit: %d", err)
	}
	says(t, "opened again", opened(t, d, 1), m)
}

// TestLockViews: views are asked, opened and closed through one cache, while the store goes on.
func TestLockViews(t *testing.T) {
	d := image(t, 3000, rich(t))
	m := mapOf(t, d.Durable())
	s := opened(t, d, 3)
	kept, _ := s.View()
	want := m.within("", "", all)
	var wg sync.WaitGroup
	for h := range 6 {
		wg.Go(func() {
			next := noise(uint64(h))
			for range 60 {
				asks(t, next, s, kept, m, want)
			}
		})
	}
	for i := range 60 {
		s.Put([]byte(fmt.Sprint("n", i%7)), []byte(fill(i*20, i)))
		s.Delete([]byte(fmt.Sprint("n", (i+3)%7)))
		if i%3 == 0 {
			if err := s.Commit(); err != api.OK {
				t.Errorf("Commit: %d", err)
			}
		}
	}
	wg.Wait()
	if !kept.Close() || kept.Close() {
		t.Error("Close")
	}
}

// asks asks a view that stays, and one that it opens and closes again.
func asks(t *testing.T, next func(int) int, s *store.Store, kept *store.View, m plain, want []api.Pair) {
	p := want[next(len(want))]
	if value, has, err := kept.Get(p.Key); err != api.OK || !has || string(value) != string(p.Value) {
		t.Errorf("Get: %d, %v", err, has)
	}
	if n, err := kept.Rank(p.Key); err != api.OK || n != m.rank(string(p.Key)) {
		t.Errorf("Rank: %d, %d", n, err)
	}
	v, err := s.View()
	if err != api.OK {
		t.Errorf("View: %d", err)
		return
	}
	if _, err := v.Scan(nil, nil, 40); err != api.OK || v.Version() == 0 {
		t.Errorf("Scan: %d", err)
	}
	if _, err := v.Nth(next(len(want) / 2)); err != api.OK {
		t.Errorf("Nth: %d", err)
	}
	s.State()
	s.Need()
	s.Room()
	if !v.Close() {
		t.Error("Close: false")
	}
}

// TestLockClose: of many that close one view at the same time just one is told true, and the version is unpinned once.
func TestLockClose(t *testing.T) {
	s := opened(t, blank(t, 30), 1)
	s.Put([]byte("a"), []byte(fill(9000, 1)))
	s.Commit()
	stays, _ := s.View()
	v, _ := s.View()
	s.Delete([]byte("a"))
	s.Commit()
	room := s.Room()
	told := make([]bool, 8)
	var wg sync.WaitGroup
	for h := range told {
		wg.Go(func() { told[h] = v.Close() })
	}
	wg.Wait()
	n := 0
	for _, is := range told {
		if is {
			n++
		}
	}
	if n != 1 || s.Room() != room || stays.Version() != 2 {
		t.Errorf("%d are told true, room %d, not %d", n, s.Room(), room)
	}
	if !stays.Close() || s.Room() == room {
		t.Error("the last one is closed, and there is no more room")
	}
}
