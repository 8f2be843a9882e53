package look_test

import (
	"fmt"
	"slices"
	"strings"
	"testing"

	"coppice/api"
	"coppice/cache"
	"coppice/disk"
	"coppice/look"
)

// stands asks at which key a cursor stands; "": at none.
func (c *cursor) stands(want string) {
	c.t.Helper()
	p, is, err := c.pair()
	if string(p.Key) != want || string(p.Value) != want || is != (want != "") || err != api.OK {
		c.fail("it stands at %s, %v, %d; not at %q", tellPair(p), is, err, want)
	}
}

// nineAsking are strings to seek by in the tree of nine letters: each key, between each two, ahead of all, behind all, and what no key may be.
func nineAsking() []string {
	l := []string{"", "\x00", "A", "z", strings.Repeat("c", 300), strings.Repeat("z", 999)}
	for _, k := range strings.Split("abcdefghi", "") {
		l = append(l, k, k+"\x00", k+"z")
	}
	return l
}

// TestP14_6Seek: to each place, and from there on to both ends.
func TestP14_6Seek(t *testing.T) {
	letters := strings.Split("abcdefghi", "")
	for _, key := range nineAsking() {
		b := newBench(t, nine(), 2, 10, 3)
		from := 0
		for from < 9 && letters[from] < key {
			from++
		}
		c, err := b.seek(key)
		if err != api.OK {
			t.Fatalf("Seek(%.40q): %d", key, err)
		}
		for i := from; i < 9; i++ {
			c.stands(letters[i])
			if is, err := c.next(); is != (i < 8) || err != api.OK {
				t.Fatalf("Next from %s: %v, %d", letters[i], is, err)
			}
		}
		c.stands("")
		for i := 8; i >= 0; i-- {
			if is, err := c.prev(); !is || err != api.OK {
				t.Fatalf("Prev to %s: %v, %d", letters[i], is, err)
			}
			c.stands(letters[i])
		}
		if is, err := c.prev(); is || err != api.OK {
			t.Fatalf("Prev from the first: %v, %d", is, err)
		}
		c.stands("")
	}
}

// TestP14_6Rows: from each place every row of nine moves.
func TestP14_6Rows(t *testing.T) {
	image := nine()
	const length = 9
	for _, key := range []string{"", "b", "c", "cc", "dd", "f", "g", "h", "i", "z"} {
		t.Run(key, func(t *testing.T) {
			t.Parallel()
			b := newBench(t, image, 9, 10, 3)
			for row := range 1 << length {
				c, err := b.seek(key)
				if err != api.OK {
					t.Fatalf("Seek: %d", err)
				}
				for i := range length {
					if row>>i&1 == 0 {
						c.next()
					} else {
						c.prev()
					}
				}
				c.pair()
				b.calls = nil
			}
		})
	}
}

// TestP14_6Ends: at an end it stays, and nothing is read; from there the whole way to the other direction is read, and from leaf to leaf only what is not on the way already.
func TestP14_6Ends(t *testing.T) {
	l, read := fresh(t, nine(), 10, 3)
	c, err := l.Seek([]byte("z"))
	if err != api.OK {
		t.Fatalf("Seek: %d", err)
	}
	if pages := read(); !slices.Equal(pages, []int{10, 9, 6}) {
		t.Errorf("Seek reads %v", pages)
	}
	for i, step := range []struct {
		move  func() (bool, api.Errno)
		is    bool
		pages []int
	}{
		{c.Next, false, nil}, {c.Next, false, nil},
		{c.Prev, true, []int{10, 9, 6}}, {c.Prev, true, nil}, // i, h
		{c.Prev, true, []int{5}},                                              // g
		{c.Prev, true, []int{8, 4}}, {c.Prev, true, nil}, {c.Prev, true, nil}, // f, e, d
		{c.Next, true, nil}, {c.Prev, true, nil}, // e, d
		{c.Prev, true, []int{7, 3}},                   // c
		{c.Next, true, []int{8, 4}},                   // d
		{c.Prev, true, []int{7, 3}},                   // c
		{c.Prev, true, []int{2}}, {c.Prev, true, nil}, // b, a
		{c.Prev, false, nil}, {c.Prev, false, nil}, {c.Prev, false, nil},
		{c.Next, true, []int{10, 7, 2}}, {c.Next, true, nil}, // a, b
		{c.Next, true, []int{3}},                 // c
		{c.Next, true, []int{8, 4}},              // d
		{c.Next, true, nil}, {c.Next, true, nil}, // e, f
		{c.Next, true, []int{9, 5}},                   // g
		{c.Next, true, []int{6}}, {c.Next, true, nil}, // h, i
		{c.Next, false, nil}, {c.Next, false, nil},
	} {
		is, err := step.move()
		if pages := read(); is != step.is || err != api.OK || !slices.Equal(pages, step.pages) {
			t.Errorf("move %d: %v, %d, pages %v; not %v, pages %v", i, is, err, pages, step.is, step.pages)
		}
	}
}

// TestP14_6SeekOn: where the leaf has no such item the cursor stands at the first one of the next leaf, even if the separators are wrong and it stands ahead of the key.
func TestP14_6SeekOn(t *testing.T) {
	b := newBench(t, file(lettersOf("ab"), lettersOf("cd"), branchOf(1, "m", 2, 3)), 3, 4, 2)
	c, err := b.seek("k")
	if err != api.OK {
		t.Fatalf("Seek: %d", err)
	}
	c.stands("c")
	c, _ = b.seek("m")
	c.stands("")
	if is, err := c.prev(); !is || err != api.OK {
		t.Errorf("Prev: %v, %d", is, err)
	}
	c.stands("d")
}

// TestP14_6Stays: where Next or Prev answers an error the cursor stands where it stood: it can be asked, and go the other way.
func TestP14_6Stays(t *testing.T) {
	for name, middle := range map[string]api.Page{"zeros": {}, "a branch": branchOf(1, "", 2), "ahead": lettersOf("A"), "behind": lettersOf("z"), "both": lettersOf("Az")} {
		t.Run(name, func(t *testing.T) {
			b := newBench(t, file(lettersOf("ab"), middle, lettersOf("cd"), branchOf(1, "bc", 2, 3, 4)), 2, 5, 2)
			c, err := b.seek("a")
			if err != api.OK {
				t.Fatalf("Seek: %d", err)
			}
			c.next()
			for range 3 {
				is, err := c.next()
				if is != (err == api.OK) {
					t.Errorf("Next: %v, %d", is, err)
				}
				if err != api.OK {
					c.stands("b")
				} else {
					c.prev()
				}
			}
			c, _ = b.seek("c")
			for range 3 {
				is, err := c.prev()
				if is != (err == api.OK) {
					t.Errorf("Prev: %v, %d", is, err)
				}
				if err != api.OK {
					c.stands("c")
				} else {
					c.next()
				}
			}
		})
	}
}

// TestP14_6StaysBelow: the same where the fault is met below a branch that has been read already.
func TestP14_6StaysBelow(t *testing.T) {
	image := file(lettersOf("ab"), api.Page{}, lettersOf("ef"), branchOf(1, "", 2), branchOf(1, "", 3), branchOf(1, "", 4), branchOf(2, "ce", 5, 6, 7))
	b := newBench(t, image, 1, 8, 3)
	c, _ := b.seek("b")
	d, _ := b.seek("e")
	for range 2 {
		if is, err := c.next(); is || err != api.ErrSum {
			t.Errorf("Next: %v, %d", is, err)
		}
		c.stands("b")
		c.prev()
		c.stands("a")
		c.next()
		if is, err := d.prev(); is || err != api.ErrSum {
			t.Errorf("Prev: %v, %d", is, err)
		}
		d.stands("e")
		d.next()
		d.stands("f")
		d.prev()
	}
}

// TestP14_6StaysAtEnds: an error on the way from an end leaves the cursor at that end.
func TestP14_6StaysAtEnds(t *testing.T) {
	d := diskOf(t, nine())
	c := cache.New(d, 1)
	l := look.New(c, 10, 3)
	ask := func(name string, f func() (bool, api.Errno), is bool, want api.Errno) {
		t.Helper()
		if got, err := f(); got != is || err != want {
			t.Errorf("%s: %v, %d; not %v, %d", name, got, err, is, want)
		}
	}
	turned := func(no int, f func()) {
		t.Helper()
		c.Drop(no)
		d.Rot(no, 9, 1)
		f()
		d.Rot(no, 9, 1)
	}
	last, err := l.Seek([]byte("z"))
	if err != api.OK {
		t.Fatalf("Seek: %d", err)
	}
	for _, no := range []int{10, 9, 6} {
		turned(no, func() {
			ask("Prev", last.Prev, false, api.ErrSum)
			ask("Next", last.Next, false, api.OK)
			if p, is, err := last.Pair(); p.Key != nil || is || err != api.OK {
				t.Errorf("Pair: %s, %v, %d", tellPair(p), is, err)
			}
		})
	}
	ask("Prev", last.Prev, true, api.OK)
	first, _ := l.Seek(nil)
	ask("Prev", first.Prev, false, api.OK)
	for _, no := range []int{10, 7, 2} {
		turned(no, func() {
			ask("Next", first.Next, false, api.ErrSum)
			ask("Prev", first.Prev, false, api.OK)
			if p, is, err := first.Pair(); p.Key != nil || is || err != api.OK {
				t.Errorf("Pair: %s, %v, %d", tellPair(p), is, err)
			}
		})
	}
	ask("Next", first.Next, true, api.OK)
	if p, is, err := first.Pair(); string(p.Key) != "a" || !is || err != api.OK {
		t.Errorf("Pair: %s, %v, %d", tellPair(p), is, err)
	}
}

// off lets the power of a disk fail, so that no page can be read.
func off(d *disk.Disk) {
	d.Arm(1)
	d.Sync()
}

// TestP14_6KeepsItsWay: with the power off, and nothing held, it goes over the items of its leaf and tells them, and no further.
func TestP14_6KeepsItsWay(t *testing.T) {
	d := diskOf(t, nine())
	c := cache.New(d, 1)
	x, err := look.New(c, 10, 3).Seek([]byte("e"))
	if err != api.OK {
		t.Fatalf("Seek: %d", err)
	}
	off(d)
	for _, no := range c.Held() {
		c.Drop(no)
	}
	for i, step := range []struct {
		move func() (bool, api.Errno)
		key  string
		err  api.Errno
	}{
		{x.Next, "f", api.OK}, {x.Next, "f", api.ErrPower}, {x.Next, "f", api.ErrPower}, {x.Prev, "e", api.OK},
		{x.Prev, "d", api.OK}, {x.Prev, "d", api.ErrPower}, {x.Next, "e", api.OK},
	} {
		if is, err := step.move(); err != step.err || is != (err == api.OK) {
			t.Errorf("move %d: %v, %d; not %d", i, is, err, step.err)
		}
		if p, is, err := x.Pair(); string(p.Key) != step.key || string(p.Value) != step.key || !is || err != api.OK {
			t.Errorf("behind move %d: %s, %v, %d; not %s", i, tellPair(p), is, err, step.key)
		}
	}
}

// TestP14_6PairReads: the chain of a value is read by each Pair, by nothing else, and by Get's rules.
func TestP14_6PairReads(t *testing.T) {
	pages := []api.Page{leafOf(short("a", "a"), chained("b", 4086, 4)), leafOf(chained("c", 513, 2)), dataOf(5, api.ChainData), dataOf(0, 1), branchOf(1, "c", 2, 3)}
	l, read := fresh(t, file(pages...), 6, 2)
	c, _ := l.Seek([]byte("b"))
	if pages := read(); !slices.Equal(pages, []int{6, 2}) {
		t.Errorf("Seek reads %v", pages)
	}
	for range 3 {
		p, is, err := c.Pair()
		if pages := read(); len(p.Value) != 4086 || !is || err != api.OK || !slices.Equal(pages, []int{4, 5}) {
			t.Errorf("Pair: %s, %v, %d, pages %v", tellPair(p), is, err, pages)
		}
	}
	c.Next()
	if pages := read(); !slices.Equal(pages, []int{3}) {
		t.Errorf("Next reads %v", pages)
	}
	for range 2 {
		p, is, err := c.Pair()
		if pages := read(); p.Key != nil || p.Value != nil || is || err != api.ErrLost || !slices.Equal(pages, []int{2}) {
			t.Errorf("Pair: %s, %v, %d, pages %v", tellPair(p), is, err, pages)
		}
	}
	if is, err := c.Prev(); !is || err != api.OK { // behind an error of Pair it stands where it stood
		t.Errorf("Prev: %v, %d", is, err)
	}
	if p, is, err := c.Pair(); string(p.Key) != "b" || !is || err != api.OK {
		t.Errorf("Pair: %s, %v, %d", tellPair(p), is, err)
	}
}

// TestP14_7Apart: cursors and looks that share a cache tell what each of them would alone; those that share only a disk don't see one another at all.
func TestP14_7Apart(t *testing.T) {
	for seed := range uint64(30) {
		next := noise(7000 + seed)
		w := planted(next, 1+next(4), few(), 3, 3, 2)
		l := w.asking()
		b := newBench(t, w.image(), 1+next(6), w.root, w.height)
		var cursors []*cursor
		for i := range 60 {
			if i%9 == 0 {
				b.turnTo(w.root, w.height)
			}
			if c, _ := b.seek(l[next(len(l))]); c != nil && next(3) == 0 {
				cursors = append(cursors, c)
			}
			for _, c := range cursors {
				switch next(3) {
				case 0:
					c.next()
				case 1:
					c.prev()
				}
				c.pair()
			}
			b.get(l[next(len(l))])
		}
	}
	d := diskOf(t, nine())
	one, other := cache.New(d, 3), cache.New(d, 3)
	a, b := look.New(one, 10, 3), look.New(other, 10, 3)
	a.Get([]byte("a"))
	held := fmt.Sprint(one.Held())
	c, _ := b.Seek([]byte("i"))
	c.Prev()
	c.Pair()
	b.Scan(nil, nil, 9)
	if hits, misses := one.Counts(); hits != 0 || misses != 3 || fmt.Sprint(one.Held()) != held {
		t.Errorf("hits %d, misses %d, held %v", hits, misses, one.Held())
	}
}

// TestP14_7KeepsNothing: each question asks the cache for all its pages anew.
func TestP14_7KeepsNothing(t *testing.T) {
	c := cache.New(diskOf(t, nine()), 9)
	l := look.New(c, 10, 3)
	for i := range 4 {
		l.Get([]byte("e"))
		l.Rank([]byte("e"))
		l.Nth(4)
		l.Seek([]byte("e"))
		l.Scan([]byte("e"), nil, 1)
		if hits, misses := c.Counts(); hits+misses != 15*(i+1) || misses != 3 {
			t.Errorf("hits %d, misses %d", hits, misses)
		}
	}
}
