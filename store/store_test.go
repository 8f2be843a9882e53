package store_test

import (
	"bytes"
	"fmt"
	"maps"
	"math"
	"slices"
	"strings"
	"testing"

	"coppice/api"
	"coppice/check"
	"coppice/disk"
	"coppice/page"
	"coppice/pager"
	"coppice/store"
)

// TestExamples: the chapter's own.
func TestExamples(t *testing.T) {
	b := newBench(t, 9, 4, blank(t, 9).Durable())
	stands := func(need, room int, st api.State) {
		t.Helper()
		if b.s.Need() != need || b.s.Room() != room || b.s.State() != st {
			t.Errorf("need %d, room %d, %+v, not %d, %d, %+v", b.s.Need(), b.s.Room(), b.s.State(), need, room, st)
		}
	}
	b.get("a")
	b.put("a", "x")
	b.get("a")
	b.get("")
	stands(1, 7, api.State{Version: 1, Count: 2, Keys: 1, Height: 1, Changed: true})
	v := b.view()
	b.read(v, "a")
	b.commit()
	b.read(v, "a")
	if v.v.Version() != 1 {
		t.Errorf("the version %d", v.v.Version())
	}
	w := b.view()
	b.put("a", "y")
	b.commit()
	b.read(w, "a")
	b.get("a")
	b.put("a", "z")
	stands(2, 4, api.State{Version: 3, Count: 5, Free: 1, Keys: 1, Height: 1, Changed: true})
	b.close(1)
	stands(2, 4, api.State{Version: 3, Count: 5, Free: 1, Keys: 1, Height: 1, Changed: true})
	b.close(0)
	stands(2, 5, api.State{Version: 3, Count: 5, Free: 1, Keys: 1, Height: 1, Changed: true})
	if _, _, err := w.v.Get([]byte("a")); err != api.ErrClosed {
		t.Errorf("a closed view: %d", err)
	}
	b.rollback()
	stands(0, 5, api.State{Version: 3, Count: 5, Free: 1, Keys: 1, Height: 1})
	b.scan("", "", 5)
	b.scan("b", "", 5)
	b.scan("", "", 0)
	b.scan("", "", -1)
	b.delete("a")
	b.delete("a")
	b.commit()
	if st := b.s.State(); st.Version != 4 || st.Keys != 0 || st.Height != 0 {
		t.Errorf("%+v", st)
	}
}

// TestP19_1Format: it is the pager's, whatever the disk holds and wherever the power fails.
func TestP19_1Format(t *testing.T) {
	for pages := range 4 {
		for k := range 7 {
			file := bytes.Repeat([]byte{0xa7}, pages*api.PageSize)
			a, b := image(t, 5, file), image(t, 5, file)
			a.Arm(k)
			b.Arm(k)
			got, want := store.Format(a), pager.Format(b)
			if got != want || a.Done() != b.Done() || !bytes.Equal(a.Durable(), b.Durable()) || len(a.Pending()) != len(b.Pending()) {
				t.Errorf("%d pages, the power fails at %d: %d, not %d", pages, k, got, want)
			}
			if k == 0 || k == 6 {
				says(t, "a new file", opened(t, a, 1), plain{})
			}
		}
	}
}

// rich is a file of several commits, with chains and pages of frees.
func rich(t *testing.T) []byte {
	t.Helper()
	b := newBench(t, 300, 4, blank(t, 300).Durable())
	next := noise(19)
	for range 3 {
		for range 60 {
			b.put(some(next), fill([]int{0, 5, 400, 512, 513, 5000}[next(6)], next(256)))
		}
		b.commit()
		for range 10 {
			b.delete(some(next))
		}
	}
	b.commit()
	return b.d.Durable()
}

// TestP19_1Frames: how many frames there may be, ahead of what the disk holds.
func TestP19_1Frames(t *testing.T) {
	t.Parallel()
	file := rich(t)
	for _, frames := range []int{0, -1, api.MaxFrames + 1, math.MinInt, math.MaxInt} {
		for _, d := range []*disk.Disk{image(t, 300, file), disk.New(9), image(t, 300, file[:api.PageSize])} {
			if s, at, err := store.Open(d, frames); s != nil || at != 0 || err != api.ErrFrames || d.Reads() != 0 || d.Done() != 0 {
				t.Errorf("%d frames: %d at %d, %d Reads", frames, err, at, d.Reads())
			}
		}
	}
	for _, frames := range []int{1, 2, api.MaxFrames} {
		b := newBench(t, 300, frames, file)
		b.tells(b.view())
	}
}

// TestP19_1Opened: a store that was opened has what was loaded; all that is free is usable, nothing is held, and each page was read once.
func TestP19_1Opened(t *testing.T) {
	file := rich(t)
	f, _, _ := check.Open(file)
	h := f.Head()
	for _, cap := range []int{len(file) / api.PageSize, 300, api.MaxPages} {
		d := image(t, cap, file)
		s := opened(t, d, api.MaxFrames)
		if d.Reads() != len(file)/api.PageSize || d.Done() != 0 || len(d.Pending()) != 0 || !bytes.Equal(d.Durable(), file) {
			t.Errorf("%d Reads, %d Writes and Syncs", d.Reads(), d.Done())
		}
		if want := (api.State{Version: h.Version, Count: h.Count, Free: h.Free, Keys: h.Keys, Height: h.Height}); s.State() != want || s.Need() != 0 || h.Free == 0 {
			t.Errorf("%+v, not %+v", s.State(), want)
		}
		if want := cap - h.Count + h.Free; s.Room() != want {
			t.Errorf("room %d, not %d", s.Room(), want)
		}
		says(t, "Open", s, mapOf(t, file))
		v, _ := s.View()
		reads := d.Reads()
		v.Rank([]byte("c"))
		if d.Reads() != reads+h.Height {
			t.Errorf("the first Rank reads %d pages", d.Reads()-reads)
		}
	}
}

// TestP19_1Refused: what Load refuses, at its page, with nothing written.
func TestP19_1Refused(t *testing.T) {
	file := rich(t)
	pages := len(file) / api.PageSize
	f, _, _ := check.Open(file)
	slot := f.Head().Version % 2
	refused := func(what string, d *disk.Disk, at int, err api.Errno) {
		t.Helper()
		done, pends := d.Done(), len(d.Pending())
		s, i, e := store.Open(d, 4)
		if s != nil || i != at || e != err || d.Done() != done || len(d.Pending()) != pends {
			t.Errorf("%s: %d at %d, not %d at %d", what, e, i, err, at)
		}
	}
	refused("no page", disk.New(9), 0, api.ErrFile)
	refused("one page", image(t, 9, file[:api.PageSize]), 0, api.ErrFile)
	refused("zeros", image(t, 9, make([]byte, 5*api.PageSize)), 0, api.ErrNoHead)
	refused("cut", image(t, pages, file[:len(file)-api.PageSize]), slot, api.ErrCount)
	for _, no := range []int{f.Head().Root, f.Lists()[0], f.Tree().Numbers()[0]} {
		d := image(t, pages, file)
		d.Rot(no, 99, 3)
		refused("rot", d, no, api.ErrSum)
	}
	d := image(t, pages, file)
	d.Arm(1)
	d.Sync()
	refused("the power is off", d, 0, api.ErrPower)
	d.Crash(nil)
	says(t, "the power is on again", opened(t, d, 1), mapOf(t, file))
}

// TestP19_2Get: keys that may be and may not, and what was laid in and taken out since the last Commit.
func TestP19_2Get(t *testing.T) {
	b := newBench(t, 300, 2, rich(t))
	long := strings.Repeat("k", api.MaxKey)
	b.put(long, "long")
	b.put("\x00", "")
	for key := range maps.Clone(b.last) {
		b.get(key)
		b.get(key + "\x00")
		if key < "c" {
			b.delete(key)
			b.get(key)
		}
	}
	for _, key := range []string{"", "\x00", long, long + "k", long[1:], strings.Repeat("k", 99999)} {
		b.get(key)
	}
}

// TestP19_2Scan: any ends, any limit.
func TestP19_2Scan(t *testing.T) {
	t.Parallel()
	b := newBench(t, 300, 2, rich(t))
	b.put("bb", "new")
	b.delete("c\x03")
	ends := []string{"", "a", "b", "bb", "bb\x00", "c\x03", "d\x10", "z", "\xff", strings.Repeat("b", 3000), "\x00"}
	for _, lo := range ends {
		for _, hi := range ends {
			for _, limit := range []int{0, 1, 2, 7, len(b.work) - 1, len(b.work), len(b.work) + 1, all, math.MaxInt, -1, math.MinInt} {
				b.scan(lo, hi, limit)
			}
		}
	}
	b = newBench(t, 9, 1, blank(t, 9).Durable())
	b.scan("", "", all)
	b.scan("", "", -1)
}

// TestP19_3Put: values of all lengths, in place of others too, and what may not be.
func TestP19_3Put(t *testing.T) {
	t.Parallel()
	b := newBench(t, 900, 2, rich(t))
	long := strings.Repeat("k", api.MaxKey)
	sizes := []int{0, 1, 511, 512, 513, 4085, 4086, 8170, 8171, api.MaxValue - 1, api.MaxValue, api.MaxValue + 1}
	for i, size := range sizes {
		for _, key := range []string{"v", fmt.Sprint("v", size), long[:api.MaxKey-i]} {
			b.put(key, fill(size, i))
			b.get(key)
		}
	}
	before := b.s.State()
	for _, key := range []string{"", long + "k", strings.Repeat("k", 99999)} {
		b.put(key, "")
		b.put(key, fill(api.MaxValue+1, 1))
		b.delete(key)
	}
	b.put("v", fill(api.MaxValue+1, 2))
	b.get("v")
	if b.s.State() != before {
		t.Error("what was refused has changed something")
	}
	says(t, "Put", b.s, b.work)
	b.commit()
	says(t, "opened again", opened(t, image(t, 900, b.d.Durable()), 1), b.work)
}

// TestP19_3Delete: of what is there, of what is not, of all.
func TestP19_3Delete(t *testing.T) {
	b := newBench(t, 300, 2, rich(t))
	for key := range maps.Clone(b.work) {
		b.delete(key + "\x00")
		b.delete(key)
		b.delete(key)
		b.get(key)
	}
	if st := b.s.State(); st.Keys != 0 || st.Height != 0 || !st.Changed {
		t.Errorf("%+v", st)
	}
	b.delete("")
	b.commit()
	b.delete("a")
	b.put("a", "x")
	b.delete("a")
	b.commit()
}

// TestP19_3NoDisk: none of these asks the disk: with the power off they answer as ever.
func TestP19_3NoDisk(t *testing.T) {
	b := newBench(t, 300, 2, rich(t))
	for _, d := range []*disk.Disk{b.d, b.twin.d} {
		d.Arm(1)
		d.Sync()
	}
	next := noise(193)
	for range 50 {
		b.put(some(next), fill(next(2000), 1))
		b.delete(some(next))
		b.get(some(next))
		b.scan(some(next), some(next), next(9))
		b.scan("", "", next(9))
	}
	b.rollback()
	if err := b.s.Commit(); err != api.OK {
		t.Errorf("a Commit that writes nothing: %d", err)
	}
	x := b.view()
	b.close(0)
	if _, _, err := x.v.Get([]byte("a")); err != api.ErrClosed {
		t.Errorf("a closed view: %d", err)
	}
	says(t, "with the power off", b.s, b.last)
}

// TestP19_4Nothing: a Commit that has nothing to write does nothing.
func TestP19_4Nothing(t *testing.T) {
	file := rich(t)
	for _, file := range [][]byte{file, blank(t, 9).Durable()} {
		b := newBench(t, 300, 3, file)
		b.commit()
		for key, value := range maps.Clone(b.work) {
			b.put(key, value)
		}
		b.delete("not there")
		b.commit()
		b.put("a", "b")
		b.rollback()
		b.commit()
		if st := b.s.State(); !bytes.Equal(b.d.Durable(), file) || st.Changed || b.d.Done() != 0 {
			t.Errorf("%+v, %d Writes and Syncs", st, b.d.Done())
		}
	}
	b := newBench(t, 300, 3, file)
	b.put("not there", "x")
	b.delete("not there")
	if st := b.s.State(); !st.Changed || b.s.Need() == 0 {
		t.Errorf("new nodes: %+v", st)
	}
	b.commit()
}

// TestP19_4Commit: commits of all kinds, one behind the other, and the store opened again.
func TestP19_4Commit(t *testing.T) {
	for i, sizes := range [][]int{{0, 3, 40}, {400, 512}, {0, 513, 4086, 9000}} {
		t.Run(fmt.Sprint(sizes), func(t *testing.T) {
			t.Parallel()
			next := noise(uint64(194 + i))
			b := newBench(t, 2000, 3, blank(t, 2000).Durable())
			for range 12 {
				for range 1 + next(50) {
					if next(4) == 0 {
						b.delete(some(next))
					} else {
						b.put(some(next), fill(sizes[next(len(sizes))], next(256)))
					}
				}
				b.commit()
				c := newBench(t, 2000, 3, b.d.Durable())
				says(t, "opened again", c.s, b.work)
				if c.s.State() != b.s.State() || c.s.Room() != b.s.Room() {
					t.Fatalf("opened again: %+v, not %+v", c.s.State(), b.s.State())
				}
			}
		})
	}
}

// TestP19_4Full: a Commit for which there is just room, and one page less: nothing has changed, and it goes on.
func TestP19_4Full(t *testing.T) {
	for size := range 6 {
		b := newBench(t, 9, 2, blank(t, 9).Durable())
		b.put("a", "x")
		b.commit()
		b.put("a", "y")
		b.commit()
		b.put("b", fill(size*4085, 3))
		fits := b.s.Need() <= b.s.Room()
		b.commit()
		if fits != (b.full == 0) || fits != (size < 4) {
			t.Errorf("%d pages: %d times there was no room", size, b.full)
		}
		b.get("b")
		b.commit()
		b.put("b", "short")
		b.get("b")
		b.rollback()
		b.put("b", "short")
		b.commit()
		if b.s.State().Changed {
			t.Error("a short value finds no room")
		}
	}
}

// atVersion is a file of one leaf whose head has this version.
func atVersion(t *testing.T, version int) []byte {
	t.Helper()
	leaf, e := page.Encode(api.Page{Kind: api.Leaf, Items: []api.Item{{Key: []byte("a"), Value: []byte("x"), Size: 1}}})
	head, err := page.Encode(api.Page{Kind: api.Meta, Head: api.Head{Version: version, Count: 3, Root: 2, Height: 1, Keys: 1}})
	if e != api.OK || err != api.OK {
		t.Fatalf("Encode: %d, %d", e, err)
	}
	slots := [2][]byte{make([]byte, api.PageSize), make([]byte, api.PageSize)}
	slots[version%2] = head
	return slices.Concat(slots[0], slots[1], leaf)
}

// TestP19_4Versions: the last version has no next one, and stays readable.
func TestP19_4Versions(t *testing.T) {
	b := newBench(t, 5, 2, atVersion(t, api.MaxVersion))
	b.commit()
	for _, size := range []int{1, 99999} { // for the second one there is no room, either
		b.put("b", fill(size, 1))
		before := b.s.State()
		done := b.d.Done()
		if err := b.s.Commit(); err != api.ErrVersions || b.s.State() != before || b.d.Done() != done {
			t.Errorf("Commit: %d", err)
		}
		b.alike("Commit")
		b.get("b")
		b.tells(b.view())
	}
	b.rollback()
	b.commit()
	b = newBench(t, 5, 2, atVersion(t, api.MaxVersion-1))
	b.put("b", "")
	b.commit()
	b.delete("a")
	if err := b.s.Commit(); err != api.ErrVersions || b.s.State().Version != api.MaxVersion {
		t.Errorf("behind the last version: %d", err)
	}
}

// TestP19_4Rollback: to what Open found, and to each Commit.
func TestP19_4Rollback(t *testing.T) {
	t.Parallel()
	b := newBench(t, 300, 2, rich(t))
	next := noise(4)
	for range 5 {
		b.rollback()
		for range 30 {
			b.put(some(next), fill(next(900), 3))
			b.delete(some(next))
		}
		b.rollback()
		b.rollback()
		b.put(some(next), "stays")
		b.delete(some(next))
		b.commit()
	}
	b.put("a", fill(200000, 1))
	for range 6 {
		b.put("a"+fmt.Sprint(b.s.Need()), fill(200000, 1))
	}
	b.commit()
	if b.full != 1 {
		t.Error("there was room")
	}
	b.rollback() // behind a Commit that was refused, to the one ahead of it
	says(t, "opened again", opened(t, image(t, 300, b.d.Durable()), 1), b.work)
}
