package cache_test

import (
	"fmt"
	"math"
	"slices"
	"testing"

	"coppice/api"
	"coppice/cache"
	"coppice/disk"
)

// imageOf is the image of n leaves.
func imageOf(t *testing.T, n int) []byte {
	t.Helper()
	d, _ := filled(t, n)
	return d.Durable()
}

// TestExamples: the chapter's table, a line a step.
func TestExamples(t *testing.T) {
	d, leaves := filled(t, 4)
	c := cache.New(d, 2)
	read := func(no int, want api.Errno) {
		t.Helper()
		p, err := c.Read(no)
		if err != want || want == api.OK && !same(p, leaves[no]) || want != api.OK && !same(p, api.Page{}) {
			t.Errorf("Read(%d): %s, %d", no, tell(p), err)
		}
	}
	stands := func(held []int, hits, misses int) {
		t.Helper()
		h, m := c.Counts()
		if !slices.Equal(c.Held(), held) || h != hits || m != misses {
			t.Errorf("%v, %d, %d; not %v, %d, %d", c.Held(), h, m, held, hits, misses)
		}
	}
	read(2, api.OK)
	read(3, api.OK)
	stands([]int{3, 2}, 0, 2)
	read(2, api.OK)
	stands([]int{2, 3}, 1, 2)
	read(1, api.OK)
	stands([]int{1, 2}, 1, 3)
	read(3, api.OK)
	stands([]int{3, 1}, 1, 4)
	c.Drop(3)
	c.Drop(9)
	stands([]int{1}, 1, 4)
	read(9, api.ErrNoPage)
	stands([]int{1}, 1, 5)
	read(3, api.OK)
	stands([]int{3, 1}, 1, 6)
}

func TestP13_1Frames(t *testing.T) {
	d, _ := filled(t, 1)
	for _, n := range append(oddNumbers(), -4095, 0, api.MaxFrames+1, 2*api.MaxFrames, 1<<32+7) {
		if cache.New(d, n) != nil {
			t.Errorf("New with %d frames: a cache", n)
		}
	}
	for _, n := range []int{1, 2, 3, 4095, api.MaxFrames} {
		c := cache.New(d, n)
		if c == nil {
			t.Fatalf("New with %d frames: nil", n)
		}
		if hits, misses := c.Counts(); len(c.Held()) != 0 || hits != 0 || misses != 0 {
			t.Errorf("New with %d frames: held %v, hits %d, misses %d", n, c.Held(), hits, misses)
		}
	}
	if d.Reads() != 0 || d.Done() != 0 {
		t.Errorf("New has done something at the disk: %d Reads, %d Writes and Syncs", d.Reads(), d.Done())
	}
}

// TestP13_1AnyDisk: a disk of no page, and one whose power is off, have caches too.
func TestP13_1AnyDisk(t *testing.T) {
	empty := disk.New(2)
	off, _ := filled(t, 1)
	off.Arm(1)
	off.Sync()
	for want, d := range map[api.Errno]*disk.Disk{api.ErrNoPage: empty, api.ErrPower: off} {
		c := cache.New(d, 1)
		if c == nil {
			t.Fatal("New: nil")
		}
		p, err := c.Read(0)
		if hits, misses := c.Counts(); err != want || !same(p, api.Page{}) || len(c.Held()) != 0 || hits != 0 || misses != 1 {
			t.Errorf("Read(0): %s, %d, not %d; held %v, hits %d, misses %d", tell(p), err, want, c.Held(), hits, misses)
		}
	}
}

// TestP13_2Kinds: a page of each kind, as a miss and as hits.
func TestP13_2Kinds(t *testing.T) {
	var image []byte
	for _, p := range allKinds() {
		image = append(image, encoded(t, p)...)
	}
	b := newBench(t, image, 3)
	for no, want := range allKinds() {
		for range 3 {
			if got, err := b.read(no); err != api.OK || !same(got, want) {
				t.Errorf("Read(%d): %s, %d; not %s", no, tell(got), err, tell(want))
			}
			b.look()
		}
	}
}

// TestP13_2HitsLeaveTheDisk: what is held is told though the disk would tell otherwise by now; a page that isn't held is asked of the disk.
func TestP13_2HitsLeaveTheDisk(t *testing.T) {
	b := newBench(t, imageOf(t, 4), 2)
	b.read(0)
	b.read(1)
	b.do("Write(0)", func(d *disk.Disk) { d.Write(0, encoded(t, leafOf("new"))) })
	b.do("Rot(1)", func(d *disk.Disk) { d.Rot(1, 9, 9) })
	for _, no := range []int{0, 1, 0} {
		if p, err := b.read(no); err != api.OK || !same(p, leafOf(fmt.Sprint("leaf ", no))) {
			t.Errorf("a hit at %d: %s, %d", no, tell(p), err)
		}
	}
	b.drop(0)
	if p, err := b.read(0); err != api.OK || !same(p, leafOf("new")) {
		t.Errorf("a miss at 0: %s, %d", tell(p), err)
	}
	b.drop(1)
	if _, err := b.read(1); err != api.ErrSum {
		t.Errorf("a miss at 1: %d", err)
	}
	b.look()
}

// TestP13_2PowerOff: what is held is told with the power off too; beside that there are the disk's errors, in the disk's order.
func TestP13_2PowerOff(t *testing.T) {
	b := newBench(t, imageOf(t, 4), 2)
	b.read(0)
	b.read(1)
	b.do("Arm(1), Sync()", func(d *disk.Disk) {
		d.Arm(1)
		d.Sync()
	})
	for _, step := range []struct {
		no   int
		want api.Errno
	}{{0, api.OK}, {2, api.ErrPower}, {1, api.OK}, {4, api.ErrNoPage}, {3, api.ErrPower}, {-1, api.ErrNoPage}, {0, api.OK}} {
		if _, err := b.read(step.no); err != step.want {
			t.Errorf("Read(%d): %d, not %d", step.no, err, step.want)
		}
		b.look()
	}
}

// TestP13_2NoPage: numbers that no page has, whether a frame is free or not.
func TestP13_2NoPage(t *testing.T) {
	for _, frames := range []int{1, 2, 5} {
		b := newBench(t, imageOf(t, 3), frames)
		for no := range 3 {
			for _, odd := range append(oddNumbers(), 3, 4, 5, 7) {
				if _, err := b.read(odd); err != api.ErrNoPage {
					t.Errorf("Read(%d): %d", odd, err)
				}
				b.look()
			}
			b.read(no)
		}
	}
}

// TestP13_2Spoilt: a page that doesn't decode has page.Decode's error each time; nothing is held for it, and nothing let go.
func TestP13_2Spoilt(t *testing.T) {
	pages, errs := spoilt(t)
	image := imageOf(t, 3)
	for _, p := range pages {
		image = append(image, p...)
	}
	for _, frames := range []int{1, 3, 4} {
		b := newBench(t, image, frames)
		for no := range 3 {
			b.read(no)
		}
		for i, want := range errs {
			for range 2 {
				if p, err := b.read(3 + i); err != want || !same(p, api.Page{}) {
					t.Errorf("Read of the spoilt page %d: %s, %d, not %d", i, tell(p), err, want)
				}
				b.look()
			}
			b.read(i % 3)
		}
		b.look()
	}
}

// TestP13_2Mended: a Read that failed leaves nothing behind by which a later one would fail.
func TestP13_2Mended(t *testing.T) {
	b := newBench(t, imageOf(t, 2), 2)
	b.do("Rot(1)", func(d *disk.Disk) { d.Rot(1, 0, 1) })
	if _, err := b.read(1); err != api.ErrSum {
		t.Errorf("Read(1): %d", err)
	}
	if _, err := b.read(2); err != api.ErrNoPage {
		t.Errorf("Read(2): %d", err)
	}
	b.do("Rot(1)", func(d *disk.Disk) { d.Rot(1, 0, 1) })
	b.do("Write(2)", func(d *disk.Disk) { d.Write(2, encoded(t, leafOf("third"))) })
	for no := range 3 {
		if _, err := b.read(no); err != api.OK {
			t.Errorf("Read(%d): %d", no, err)
		}
	}
	b.look()
}

// TestP13_2OneFrame: a cache of one frame holds the page that was read last.
func TestP13_2OneFrame(t *testing.T) {
	b := newBench(t, imageOf(t, 3), 1)
	for _, no := range []int{0, 0, 1, 0, 2, 2, 9, 2, 1} {
		b.read(no)
		b.look()
	}
	if hits, misses := b.c.Counts(); hits != 3 || misses != 6 {
		t.Errorf("hits %d, misses %d", hits, misses)
	}
}

// TestP13_2Rows: one to three frames, and every row of up to two calls more than that (to fill them, to bring another order into them, and to let a page go): Reads of four pages and of one that doesn't decode, Drops of two.
func TestP13_2Rows(t *testing.T) {
	calls := []func(b *bench){}
	for no := range 5 {
		calls = append(calls, func(b *bench) { b.read(no) })
	}
	for no := range 2 {
		calls = append(calls, func(b *bench) { b.drop(no) })
	}
	image := append(imageOf(t, 4), make([]byte, api.PageSize)...)
	for frames := 1; frames <= 3; frames++ {
		t.Run(fmt.Sprint(frames, " frames"), func(t *testing.T) {
			t.Parallel()
			b := newBench(t, image, frames)
			rows := 1
			for length := 1; length <= frames+2; length++ {
				rows *= len(calls)
				for row := range rows {
					b.anew()
					for range length {
						calls[row%len(calls)](b)
						row /= len(calls)
					}
					b.look()
				}
			}
		})
	}
}

// TestP13_2MaxFrames: as many frames as there may be, and a few pages more.
func TestP13_2MaxFrames(t *testing.T) {
	t.Parallel()
	const more = 9
	d, leaves := filled(t, api.MaxFrames+more)
	c := cache.New(d, api.MaxFrames)
	var row []int
	for no, leaf := range leaves {
		if p, err := c.Read(no); err != api.OK || !same(p, leaf) {
			t.Fatalf("Read(%d): %s, %d", no, tell(p), err)
		}
		row = slices.Insert(row, 0, no)
	}
	row = row[:api.MaxFrames]
	if !slices.Equal(c.Held(), row) {
		t.Fatalf("held are %d pages from %v on", len(c.Held()), c.Held()[:3])
	}
	c.Read(more) // the one that would be let go next
	c.Read(0)
	row = slices.Concat([]int{0, more}, row[:api.MaxFrames-2])
	if hits, misses := c.Counts(); !slices.Equal(c.Held(), row) || hits != 1 || misses != api.MaxFrames+more+1 {
		t.Errorf("hits %d, misses %d, held are %d pages from %v on", hits, misses, len(c.Held()), c.Held()[:3])
	}
}

// TestP13_3Drop: of each place of the row; a page that isn't held, and numbers that no page has, change nothing.
func TestP13_3Drop(t *testing.T) {
	for no := range 5 {
		b := newBench(t, imageOf(t, 6), 4)
		for i := range 5 {
			b.read(i)
		}
		b.drop(no)
		b.look()
		b.drop(no)
		for _, odd := range append(oddNumbers(), 5, 6, 7) {
			b.drop(odd)
		}
		b.look()
		for _, again := range []int{no, 5, 0, no, 1, 2, 3} { // the frame is free again, and the order of the others is what it was
			b.read(again)
			b.look()
		}
	}
}

// TestP13_3DropNone: a cache that holds nothing has nothing to drop; and one that has dropped all begins anew, its counts not.
func TestP13_3DropNone(t *testing.T) {
	b := newBench(t, imageOf(t, 3), 2)
	for no := -1; no < 4; no++ {
		b.drop(no)
	}
	b.look()
	for range 3 {
		for no := range 3 {
			b.read(no)
			b.read(no)
		}
		for no := range 3 {
			b.drop(no)
			b.look()
		}
	}
	if hits, misses := b.c.Counts(); hits != 9 || misses != 9 {
		t.Errorf("hits %d, misses %d", hits, misses)
	}
}

// TestP13_4Asking: Held and Counts change nothing, however often they are asked.
func TestP13_4Asking(t *testing.T) {
	b := newBench(t, imageOf(t, 4), 3)
	for _, no := range []int{2, 0, 1, 9, 2, 3, 0} {
		b.read(no)
		for range 4 {
			b.look()
		}
	}
}

// TestP13_4Order: Held tells by the time of asking, not by numbers, in a cache that is not full too.
func TestP13_4Order(t *testing.T) {
	b := newBench(t, imageOf(t, 12), 12)
	order := []int{7, 3, 11, 0, 8, 1, 10, 2, 9, 5, 4, 6}
	for i, no := range order {
		b.read(no)
		want := slices.Clone(order[:i+1])
		slices.Reverse(want)
		if held := b.c.Held(); !slices.Equal(held, want) {
			t.Fatalf("held %v, not %v", held, want)
		}
	}
	for _, no := range []int{7, 6, 0, 9} {
		b.read(no)
	}
	if held := b.c.Held(); !slices.Equal(held, []int{9, 0, 6, 7, 4, 5, 2, 10, 1, 8, 11, 3}) {
		t.Errorf("held %v", held)
	}
}

// TestAnyRows: rows of calls by noise, over pages of all kinds and pages that don't decode.
func TestAnyRows(t *testing.T) {
	t.Parallel()
	image := mixed(t)
	pages := len(image) / api.PageSize
	odd := append(oddNumbers(), pages, pages+1, math.MaxInt32)
	for seed := range uint64(60) {
		next := noise(seed)
		b := newBench(t, image, 1+next(pages+2))
		near := 1 + next(pages) // how far apart the pages stand that are asked for
		for range 300 {
			switch n := next(20); {
			case n < 15:
				b.read(next(near))
			case n < 16:
				b.read(next(pages))
			case n < 17:
				b.read(odd[next(len(odd))])
			case n < 19:
				b.drop(next(pages))
			default:
				b.drop(odd[next(len(odd))])
			}
			b.look()
		}
	}
}
