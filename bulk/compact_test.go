package bulk_test

import (
	"fmt"
	"slices"
	"testing"

	"coppice/api"
	"coppice/bulk"
	"coppice/check"
	"coppice/disk"
	"coppice/store"
)

// life is a store over a disk of its own, and the map that it is to say.
type life struct {
	t *testing.T
	d *disk.Disk
	s *store.Store
	m map[string][]byte
}

func newLife(t *testing.T) *life {
	t.Helper()
	d := disk.New(9000)
	if err := store.Format(d); err != api.OK {
		t.Fatalf("Format: %d", err)
	}
	s, _, err := store.Open(d, 8)
	if err != api.OK {
		t.Fatalf("Open: %d", err)
	}
	return &life{t: t, d: d, s: s, m: map[string][]byte{}}
}

func (l *life) put(p api.Pair) {
	l.s.Put(p.Key, p.Value)
	l.m[string(p.Key)] = p.Value
}

func (l *life) drop(key string) {
	l.s.Delete([]byte(key))
	delete(l.m, key)
}

// commit makes what was put durable, and answers the file.
func (l *life) commit() []byte {
	l.t.Helper()
	if err := l.s.Commit(); err != api.OK {
		l.t.Fatalf("Commit: %d", err)
	}
	return l.d.Durable()
}

// live goes some way with pairs of a wood: much is laid in and taken out again, with commits and views between.
func (l *life) live(w wood, next func(int) int) {
	l.t.Helper()
	for _, p := range w.some(next, 1+next(w.pairs/3)) {
		l.put(p)
		if next(40) == 0 {
			l.commit()
		}
	}
	l.commit()
	for _, p := range pairsOf(l.m) {
		switch next(4) {
		case 0:
			l.put(api.Pair{Key: p.Key, Value: fill(w.sizes[next(len(w.sizes))], next(256))})
		case 1, 2:
			l.drop(string(p.Key))
		}
		if next(60) == 0 {
			l.s.View()
			l.commit()
		}
	}
	l.commit()
}

// compactIs asks whether Compact leaves the file of these pairs.
func compactIs(t *testing.T, what string, file []byte, l []api.Pair) {
	t.Helper()
	want := plainFile(t, l)
	d := newDisk(t, len(want)/4096)
	if at, err := bulk.Compact(file, d); at != 0 || err != api.OK {
		t.Fatalf("%s: Compact is %d at %d", what, err, at)
	}
	holds(t, what, d, want)
}

// compactRefused asks for a page and an error of Compact, with nothing done.
func compactRefused(t *testing.T, what string, file []byte, d *disk.Disk, at int, err api.Errno) {
	t.Helper()
	was := state(d)
	if no, e := bulk.Compact(file, d); no != at || e != err {
		t.Errorf("%s: Compact is %d at %d, not %d at %d", what, e, no, err, at)
	}
	if state(d) != was {
		t.Errorf("%s: something was done with the disk", what)
	}
}

// TestP21_4Lives: files of stores that have gone a long way.
func TestP21_4Lives(t *testing.T) {
	for _, w := range woods() {
		t.Run(w.name, func(t *testing.T) {
			t.Parallel()
			next := noise(214)
			free := 0
			for i := range 4 {
				l := newLife(t)
				l.live(w, next)
				file := l.commit()
				f, at, err := check.Open(file)
				if err != api.OK {
					t.Fatalf("life %d: refused with %d at %d", i, err, at)
				}
				free += len(f.Free())
				compactIs(t, fmt.Sprint("life ", i), file, pairsOf(l.m))
			}
			if free == 0 {
				t.Error("no file lists anything as free")
			}
		})
	}
}

// TestP21_4ByHand: files of few pages; what lies behind the count is not looked at.
func TestP21_4ByHand(t *testing.T) {
	nine := plainFile(t, letters(9, 500))
	compactIs(t, "no pair", emptyFile(t), nil)
	compactIs(t, "no pair, and more behind it", append(emptyFile(t), fill(5*4096, 3)...), nil)
	compactIs(t, "nine", nine, letters(9, 500))
	compactIs(t, "nine, and more behind them", append(slices.Clone(nine), fill(3*4096, 1)...), letters(9, 500))
	chains := append(letters(3, 9000), letters(20, 500)[3:]...)
	compactIs(t, "chains", plainFile(t, chains), chains)
	slot := slices.Clone(nine)
	copy(slot[4096:], fill(4096, 9)) // the older head is gone
	compactIs(t, "one slot", slot, letters(9, 500))
	copy(nine, fill(4096, 9)) // the newer one is
	compactIs(t, "the older head", nine, nil)
	l := newLife(t)
	for i := range 40 {
		l.put(pair(fmt.Sprint("k", i), 500))
	}
	l.commit()
	for i := range 40 {
		l.drop(fmt.Sprint("k", i))
	}
	compactIs(t, "all is gone", l.commit(), nil)
}

// TestP21_4Faults: what check.Open refuses, at its page, whatever the disk is like.
func TestP21_4Faults(t *testing.T) {
	disks := usedDisks(t)
	disks["new"] = newDisk(t, 9)
	disks["small"] = newDisk(t, 2)
	nine := plainFile(t, letters(9, 500))
	for what, d := range disks {
		compactRefused(t, what+", no byte", nil, d, 0, api.ErrFile)
		compactRefused(t, what+", one page", nine[:4096], d, 0, api.ErrFile)
		compactRefused(t, what+", a byte too few", nine[:len(nine)-1], d, 0, api.ErrFile)
		compactRefused(t, what+", a page too few", nine[:4*4096], d, 0, api.ErrCount)
		compactRefused(t, what+", zeros", make([]byte, 3*4096), d, 0, api.ErrNoHead)
		for no := 2; no < 5; no++ {
			broken := slices.Clone(nine)
			broken[no*4096+99] ^= 4
			compactRefused(t, what+", a broken page", broken, d, no, api.ErrSum)
		}
		swapped := slices.Concat(nine[:2*4096], nine[3*4096:4*4096], nine[2*4096:3*4096], nine[4*4096:])
		compactRefused(t, what+", leaves swapped", swapped, d, 2, api.ErrBounds)
	}
}

// TestP21_4Any: files of stores, broken by noise, as check.Open judges them.
func TestP21_4Any(t *testing.T) {
	t.Parallel()
	next := noise(2140)
	seen := map[api.Errno]int{}
	l := newLife(t)
	l.live(woods()[4], next)
	file := l.commit()
	for range 150 {
		b := slices.Clone(file)
		pages := len(b) / 4096
		if next(2) == 0 {
			b[next(len(b))] ^= byte(1 + next(255))
		} else {
			copy(b[next(pages)*4096:], file[next(pages)*4096:][:4096])
		}
		f, at, err := check.Open(b)
		seen[err]++
		if err != api.OK {
			compactRefused(t, "broken", b, newDisk(t, 9), at, err)
			continue
		}
		var pairs []api.Pair
		for _, n := range f.Tree().Nodes() {
			pairs = append(pairs, n.Pairs...)
		}
		compactIs(t, "not broken", b, pairs)
	}
	if seen[api.OK] == 0 || len(seen) < 3 {
		t.Errorf("only these errors come: %v", seen)
	}
}

// TestP21_4Disks: behind a file that is accepted Load's errors, at page 0.
func TestP21_4Disks(t *testing.T) {
	nine := plainFile(t, letters(9, 500))
	for what, d := range usedDisks(t) {
		compactRefused(t, what, nine, d, 0, api.ErrUsed)
		compactRefused(t, what+", no pair", emptyFile(t), d, 0, api.ErrUsed)
	}
	for cap := 2; cap < 5; cap++ {
		d := newDisk(t, cap)
		if at, err := bulk.Compact(nine, d); at != 0 || err != api.ErrFull {
			t.Errorf("cap %d: %d at %d", cap, err, at)
		}
		holds(t, "too small", d, emptyFile(t))
	}
	d := newDisk(t, 5)
	d.Arm(8)
	if at, err := bulk.Compact(nine, d); at != 0 || err != api.ErrPower || d.Done() != 8 {
		t.Errorf("the power fails: %d at %d", err, at)
	}
}
