package explore_test

import (
	"bytes"
	"fmt"
	"slices"
	"testing"

	"coppice/api"
	"coppice/disk"
	"coppice/explore"
	"coppice/store"
)

// noise tells numbers from 0 on, below the one it is given; the same ones for the same seed.
func noise(seed uint64) func(n int) int {
	return func(n int) int {
		seed = seed*6364136223846793005 + 1442695040888963407
		return int((seed >> 33) % uint64(n))
	}
}

// fill is n bytes, of all kinds.
func fill(n, seed int) []byte {
	b := make([]byte, n)
	for i := range b {
		b[i] = byte(i*7 + i>>8 + seed)
	}
	return b
}

// put is the change that lays key in.
func put(key string, value []byte) api.Change { return api.Change{Key: []byte(key), Value: value} }

// gone is the change that takes key out.
func gone(key string) api.Change { return api.Change{Key: []byte(key), Gone: true} }

// formatted is a file that was just formatted.
func formatted(t *testing.T) []byte {
	t.Helper()
	d := disk.New(2)
	if err := store.Format(d); err != api.OK {
		t.Fatalf("Format: the error %d", err)
	}
	return d.Durable()
}

// grown is a file with a Commit of each of these lists of changes behind it.
func grown(t *testing.T, commits ...[]api.Change) []byte {
	t.Helper()
	d, s, err := begin(formatted(t), 500)
	for _, l := range commits {
		if err == api.OK {
			err = change(s, l)
		}
		if err == api.OK {
			err = s.Commit()
		}
	}
	if err != api.OK {
		t.Fatalf("a file can't be grown: the error %d", err)
	}
	return d.Durable()
}

// begin is how a trial begins.
func begin(b []byte, room int) (*disk.Disk, *store.Store, api.Errno) {
	d, err := disk.Image(room, b)
	if err != api.OK {
		return nil, nil, err
	}
	s, _, err := store.Open(d, 1)
	return d, s, err
}

// change does the changes.
func change(s *store.Store, l []api.Change) api.Errno {
	for _, c := range l {
		var err api.Errno
		if c.Gone {
			_, err = s.Delete(c.Key)
		} else {
			err = s.Put(c.Key, c.Value)
		}
		if err != api.OK {
			return err
		}
	}
	return api.OK
}

// all is what a store has.
func all(s *store.Store) []api.Pair {
	l, _ := s.Scan(nil, nil, 2147483647)
	return l
}

// samePairs tells whether two lists have the same pairs.
func samePairs(a, b []api.Pair) bool {
	return slices.EqualFunc(a, b, func(x, y api.Pair) bool {
		return bytes.Equal(x.Key, y.Key) && bytes.Equal(x.Value, y.Value)
	})
}

// crash is one crash: what lasts behind it, and which map that is.
type crash struct {
	k, s    int
	durable []byte
	left    string
}

// stopped goes through a trial whose power is to fail at the k-th Write or Sync, and tells whether it did.
func stopped(b []byte, room int, l []api.Change, k int) (*disk.Disk, bool) {
	d, s, _ := begin(b, room)
	change(s, l)
	d.Arm(k)
	return d, s.Commit() != api.OK
}

// mapBehind tells which of two maps a disk has.
func mapBehind(d *disk.Disk, old, fresh []api.Pair) string {
	s, _, err := store.Open(d, 1)
	switch {
	case err != api.OK:
		return "refused"
	case samePairs(all(s), old):
		return "old"
	case samePairs(all(s), fresh):
		return "new"
	}
	return "another"
}

// fate is what becomes of a write whose digit is d.
func fate(d int, tears []int) api.Fate {
	if d < 2 {
		return api.Fate{Kind: d}
	}
	return api.Fate{Kind: 2, At: tears[d-2]}
}

// powerOf is c times itself, m times.
func powerOf(c, m int) int {
	n := 1
	for range m {
		n *= c
	}
	return n
}

// plain does what the chapter says, word by word: each crash is a trial of its own.
func plain(b []byte, room int, l []api.Change, tears []int) ([]crash, api.Errno) {
	if len(tears) > 4 || slices.ContainsFunc(tears, func(at int) bool { return at < 1 || at > 4095 }) {
		return nil, 250
	}
	_, s, err := begin(b, room)
	if err != api.OK {
		return nil, err
	}
	old := all(s)
	if err := change(s, l); err != api.OK {
		return nil, err
	}
	fresh := all(s)
	if err := s.Commit(); err != api.OK {
		return nil, err
	}
	var found []crash
	c := 2 + len(tears)
	for k := 1; ; k++ {
		d, failed := stopped(b, room, l, k)
		if !failed {
			return found, api.OK
		}
		m := len(d.Pending())
		if m > 12 || powerOf(c, m) > 4096 {
			return nil, 251
		}
		for s := range powerOf(c, m) {
			d, _ := stopped(b, room, l, k)
			var fates []api.Fate
			for i := range m {
				fates = append(fates, fate(s/powerOf(c, i)%c, tears))
			}
			d.Crash(fates)
			found = append(found, crash{k, s, d.Durable(), mapBehind(d, old, fresh)})
		}
	}
}

// count tells how many crashes left that map.
func count(l []crash, left string) int {
	n := 0
	for _, c := range l {
		if c.left == left {
			n++
		}
	}
	return n
}

// answer is what Crashes answers.
type answer struct {
	all, old, fresh int
	odd             string
	err             api.Errno
}

// String tells an answer as it may stand in a message.
func (a answer) String() string {
	return fmt.Sprintf("%d, %d, %d, %d bytes, the error %d", a.all, a.old, a.fresh, len(a.odd), a.err)
}

// asked is what Crashes answers to this.
func asked(b []byte, room int, l []api.Change, tears []int) answer {
	all, old, fresh, odd, err := explore.Crashes(b, room, l, tears)
	return answer{all, old, fresh, string(odd), err}
}

// is asks what Crashes answers.
func is(t *testing.T, what string, b []byte, room int, l []api.Change, tears []int, want answer) {
	t.Helper()
	if got := asked(b, room, l, tears); got != want {
		t.Errorf("%s: Crashes answers %v, not %v", what, got, want)
	}
}

// fails asks whether Crashes answers an error, and nothing else.
func fails(t *testing.T, what string, b []byte, room int, l []api.Change, tears []int, err api.Errno) {
	t.Helper()
	is(t, what, b, room, l, tears, answer{err: err})
}

// isPlain asks whether Crashes answers what the chapter says, word by word, and hands out just those crashes. It tells them.
func isPlain(t *testing.T, what string, b []byte, room int, l []api.Change, tears []int) ([]crash, api.Errno) {
	t.Helper()
	want, err := plain(b, room, l, tears)
	if err != api.OK {
		fails(t, what, b, room, l, tears, err)
		return nil, err
	}
	a := answer{all: len(want), old: count(want, "old"), fresh: count(want, "new")}
	if i := slices.IndexFunc(want, func(c crash) bool { return c.left != "old" && c.left != "new" }); i >= 0 {
		a.odd = string(want[i].durable)
	}
	is(t, what, b, room, l, tears, a)
	i := 0
	for d := range explore.HandedOut(b, room, l, tears) {
		switch {
		case i >= len(want):
			t.Fatalf("%s: more than %d crashes are handed out", what, len(want))
		case !bytes.Equal(d.Durable(), want[i].durable) || len(d.Pending()) != 0 || !d.Power() || d.Cap() != room:
			t.Fatalf("%s: the crash of k %d and s %d is not what is handed out as number %d", what, want[i].k, want[i].s, i)
		}
		i++
	}
	if i != len(want) {
		t.Errorf("%s: %d crashes are handed out, not %d", what, i, len(want))
	}
	return want, api.OK
}
