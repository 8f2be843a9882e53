package disk_test

import (
	"bytes"
	"fmt"
	"math"
	"slices"
	"testing"

	"coppice/api"
	"coppice/disk"
)

// wantRead asks for a page's bytes.
func wantRead(t *testing.T, d *disk.Disk, i int, want []byte, wantErr api.Errno) {
	t.Helper()
	if b, err := d.Read(i); !bytes.Equal(b, want) || err != wantErr {
		t.Errorf("Read(%d): %s, %d; not %s, %d", i, short(string(b)), err, short(string(want)), wantErr)
	}
}

// want asks for an error's number, or for OK.
func want(t *testing.T, name string, got, want api.Errno) {
	t.Helper()
	if got != want {
		t.Errorf("%s: %d, not %d", name, got, want)
	}
}

// wantPending asks that just these writes pend.
func wantPending(t *testing.T, d *disk.Disk, want ...api.Write) {
	t.Helper()
	same := func(a, b api.Write) bool { return a.No == b.No && bytes.Equal(a.Data, b.Data) }
	if l := d.Pending(); !slices.EqualFunc(l, want, same) {
		t.Errorf("%d writes pend, not these %d", len(l), len(want))
	}
}

// wantPages asks how many pages there are.
func wantPages(t *testing.T, d *disk.Disk, want int) {
	t.Helper()
	if n := d.Pages(); n != want {
		t.Errorf("%d pages, not %d", n, want)
	}
}

// TestExamples: the document's table, line by line.
func TestExamples(t *testing.T) {
	a, b, c := full(0x41), full(0x42), full(0x43)
	d := disk.New(3)
	wantPages(t, d, 0)
	wantRead(t, d, 0, nil, api.ErrNoPage)
	want(t, "Write(1, A)", d.Write(1, a), api.ErrNoPage)
	want(t, "Write(0, 4095 bytes)", d.Write(0, a[:4095]), api.ErrWrite)

	want(t, "Write(0, A)", d.Write(0, a), api.OK)
	want(t, "Write(1, A)", d.Write(1, a), api.OK)
	want(t, "Write(1, B)", d.Write(1, b), api.OK)
	wantPages(t, d, 2)
	wantRead(t, d, 1, b, api.OK)

	if l := d.Durable(); len(l) != 0 {
		t.Errorf("Durable: %d bytes", len(l))
	}
	want(t, "Sync()", d.Sync(), api.OK)
	want(t, "Write(2, C)", d.Write(2, c), api.OK)
	want(t, "Write(3, C)", d.Write(3, c), api.ErrCap)

	want(t, "Write(0, C)", d.Write(0, c), api.OK)
	want(t, "Arm(2)", d.Arm(2), api.OK)
	want(t, "Write(1, C)", d.Write(1, c), api.OK)
	want(t, "Sync()", d.Sync(), api.ErrPower)
	wantRead(t, d, 0, nil, api.ErrPower)
	wantPending(t, d, api.Write{No: 2, Data: c}, api.Write{No: 0, Data: c}, api.Write{No: 1, Data: c})

	d.Crash([]api.Fate{{Kind: api.Lost}, {Kind: api.Torn, At: 2}, {Kind: api.Kept}})
	wantPages(t, d, 2)
	wantRead(t, d, 0, append([]byte{0x43, 0x43}, a[2:]...), api.OK)
	wantRead(t, d, 1, c, api.OK)

	want(t, "Arm(1)", d.Arm(1), api.OK)
	want(t, "Write(2, A)", d.Write(2, a), api.ErrPower)
	wantPending(t, d, api.Write{No: 2, Data: a})
	d.Crash(nil)
	wantPages(t, d, 2)

	want(t, "Write(2, A)", d.Write(2, a), api.OK)
	d.Crash([]api.Fate{{Kind: api.Torn}})
	wantRead(t, d, 2, full(0), api.OK)
	want(t, "Rot(0, 0, 2)", d.Rot(0, 0, 2), api.OK)
	wantRead(t, d, 0, append([]byte{0x41, 0x43}, a[2:]...), api.OK)
}

// TestP12_1New: the caps that may be, and a disk that has nothing done to it.
func TestP12_1New(t *testing.T) {
	for _, cap := range append(oddNumbers(), 0, 1, 524288, 524289) {
		if disk.New(cap) != nil {
			t.Errorf("New(%d) is a disk", cap)
		}
	}
	for _, cap := range []int{2, 3, 9, 524286, 524287} {
		b := newBench(t, cap)
		b.look()
		if !b.d.Power() || b.d.Pages() != 0 || b.d.Done() != 0 || b.d.Reads() != 0 {
			t.Errorf("New(%d) is not as it should begin", cap)
		}
	}
}

// TestP12_1Image: which lists of bytes are pages, and how many of them a disk takes.
func TestP12_1Image(t *testing.T) {
	for _, cap := range append(oddNumbers(), 0, 1, 524288) {
		for _, n := range []int{0, 4096, 100} {
			if d, err := disk.Image(cap, make([]byte, n)); d != nil || err != api.ErrPages {
				t.Errorf("Image(%d, %d bytes): %v, %d", cap, n, d != nil, err)
			}
		}
	}
	for _, cap := range []int{2, 3, 5} {
		for pages := range 8 {
			for _, rest := range []int{0, 1, 100, 2048, 4092, 4095} {
				n := pages*api.PageSize + rest
				d, err := disk.Image(cap, make([]byte, n))
				if is := rest == 0 && pages <= cap; (d != nil) != is || (err == api.OK) != is || !is && err != api.ErrPages {
					t.Errorf("Image(%d, %d bytes): %v, %d", cap, n, d != nil, err)
				}
			}
		}
	}
	d, err := disk.Image(524287, nil)
	if d == nil || err != api.OK || d.Cap() != 524287 || d.Pages() != 0 {
		t.Errorf("Image(524287, none): %v, %d", d != nil, err)
	}
}

// TestP12_1ImageLasts: what Image is given lasts, with nothing done or pending, and what comes behind it is as on any disk.
func TestP12_1ImageLasts(t *testing.T) {
	image := slices.Concat(grain(1), grain(2), full(0), grain(4))
	for pages := range 5 {
		b := imageBench(t, max(pages, 2), image[:pages*api.PageSize])
		b.look()
		b.crash()
		b.look()
		want(t, "Write behind the last page", b.write(pages, grain(9)), []api.Errno{api.OK, api.OK, api.ErrCap, api.ErrCap, api.ErrCap}[pages])
		b.look()
		b.crash(api.Fate{Kind: api.Torn, At: 7})
		b.look()
	}
}

// TestP12_1Unarmed: a disk that nobody armed doesn't fail.
func TestP12_1Unarmed(t *testing.T) {
	d := disk.New(2)
	i, _ := disk.Image(2, full(1))
	for k := range 50 {
		want(t, "Write", d.Write(k%2, full(7)), api.OK)
		want(t, "Sync", d.Sync(), api.OK)
		want(t, "Write", i.Write(k%2, full(7)), api.OK)
		want(t, "Sync", i.Sync(), api.OK)
	}
}

// TestP12_2Pages: what lasts and what pends make the file as long as it is.
func TestP12_2Pages(t *testing.T) {
	b := newBench(t, 5)
	for i := range 5 {
		wantPages(t, b.d, i)
		b.write(i, grain(i))
		wantPages(t, b.d, i+1)
		b.write(0, grain(9))
		wantPages(t, b.d, i+1)
		b.look()
	}
	b.crash(api.Fate{Kind: api.Kept}, api.Fate{}, api.Fate{Kind: api.Kept})
	wantPages(t, b.d, 2)
	b.write(2, grain(2))
	wantPages(t, b.d, 3)
	b.sync()
	wantPages(t, b.d, 3)
	b.crash()
	wantPages(t, b.d, 3)
	b.look()
}

// TestP12_2WithoutPower: a page at which the power failed pends, so it counts.
func TestP12_2WithoutPower(t *testing.T) {
	b := imageBench(t, 4, full(1))
	b.arm(2)
	b.write(1, full(2))
	b.write(2, full(3))
	wantPages(t, b.d, 3)
	want(t, "a Write without power", b.write(3, full(4)), api.ErrPower)
	wantPages(t, b.d, 3)
	b.look()
	b.crash()
	wantPages(t, b.d, 1)
}

// TestP12_3Read: the page as it was written last, whether that pends or lasts; and no other page.
func TestP12_3Read(t *testing.T) {
	b := newBench(t, 3)
	for round := range 4 {
		for i := range 3 {
			b.write(i, grain(10*round+i))
			wantRead(t, b.d, i, grain(10*round+i), api.OK)
			b.p.reads++
		}
		b.look()
		if round%2 == 0 {
			b.sync()
			b.look()
		}
	}
	for _, i := range append(oddNumbers(), 3, 4, 524287) {
		wantRead(t, b.d, i, nil, api.ErrNoPage)
	}
	b.look()
}

// TestP12_3Order: a page that isn't there is told ahead of the power.
func TestP12_3Order(t *testing.T) {
	b := imageBench(t, 3, full(1))
	b.arm(1)
	b.write(1, full(2))
	wantRead(t, b.d, 0, nil, api.ErrPower)
	wantRead(t, b.d, 1, nil, api.ErrPower)
	for _, i := range append(oddNumbers(), 2, 3) {
		wantRead(t, b.d, i, nil, api.ErrNoPage)
	}
	b.look()
}

// TestP12_3Holes: pages that never reached the disk, below one that did, are zeros, and are there.
func TestP12_3Holes(t *testing.T) {
	b := newBench(t, 9)
	for i := range 5 {
		b.write(i, grain(i))
	}
	b.crash(api.Fate{}, api.Fate{}, api.Fate{}, api.Fate{Kind: api.Kept})
	wantPages(t, b.d, 4)
	for i := range 3 {
		wantRead(t, b.d, i, full(0), api.OK)
		b.p.reads++
	}
	b.look()
	b.write(1, grain(7))
	b.look()
	b.rot(0, 5, 9) // a hole is a page of its own
	b.look()
	b.sync()
	b.look()
}

// TestP12_4Errors: the numbers that may be written, and the order of the errors.
func TestP12_4Errors(t *testing.T) {
	b := newBench(t, 3)
	sizes := []int{0, 1, 4092, 4095, 4097, 8192}
	for pages := range 4 {
		for _, i := range append(oddNumbers(), pages+1, pages+2) {
			for _, n := range append(sizes, 4096) {
				want(t, fmt.Sprintf("Write(%d, %d bytes) at %d pages", i, n, pages), b.write(i, make([]byte, n)), api.ErrNoPage)
			}
		}
		for i := range min(pages+1, 3) {
			for _, n := range sizes {
				want(t, fmt.Sprintf("Write(%d, %d bytes) at %d pages", i, n, pages), b.write(i, make([]byte, n)), api.ErrWrite)
			}
		}
		want(t, "Write of nil", b.write(0, nil), api.ErrWrite)
		b.look()
		if pages < 3 {
			want(t, "Write at the end", b.write(pages, grain(pages)), api.OK)
		}
	}
	for _, n := range append(sizes, 4096) {
		want(t, fmt.Sprintf("Write at cap of %d bytes", n), b.write(3, make([]byte, n)), api.ErrCap)
	}
	b.look()
	if b.d.Done() != 3 {
		t.Errorf("Done: %d, not 3", b.d.Done())
	}
}

// TestP12_4OrderWithoutPower: the power comes last of the errors.
func TestP12_4OrderWithoutPower(t *testing.T) {
	b := imageBench(t, 3, slices.Concat(full(1), full(2)))
	b.arm(1)
	want(t, "Write at which the power fails", b.write(2, full(3)), api.ErrPower)
	for _, c := range []struct {
		i, n int
		want api.Errno
	}{
		{4, 4096, api.ErrNoPage}, {4, 7, api.ErrNoPage}, {-1, 4096, api.ErrNoPage}, {math.MinInt, 0, api.ErrNoPage},
		{3, 4096, api.ErrCap}, {3, 7, api.ErrCap},
		{2, 4095, api.ErrWrite}, {0, 0, api.ErrWrite},
		{0, 4096, api.ErrPower}, {2, 4096, api.ErrPower},
	} {
		want(t, fmt.Sprintf("Write(%d, %d bytes) without power", c.i, c.n), b.write(c.i, make([]byte, c.n)), c.want)
	}
	b.look()
	if len(b.d.Pending()) != 1 || b.d.Done() != 1 {
		t.Errorf("%d writes pend, %d are done", len(b.d.Pending()), b.d.Done())
	}
}

// TestP12_4Several: writes of one page pend each for itself, in their order.
func TestP12_4Several(t *testing.T) {
	b := newBench(t, 2)
	var all []api.Write
	for k, i := range []int{0, 0, 1, 0, 1, 1, 0} {
		want(t, "Write", b.write(i, grain(k)), api.OK)
		all = append(all, api.Write{No: i, Data: grain(k)})
		wantPending(t, b.d, all...)
		wantRead(t, b.d, i, grain(k), api.OK)
		b.p.reads++
	}
	b.look()
	b.write(0, grain(6)) // the same bytes again are a write of their own
	wantPending(t, b.d, append(all, api.Write{No: 0, Data: grain(6)})...)
	b.look()
}

// TestP12_5Sync: all that pends lasts, the last of one page; and nothing pends any more.
func TestP12_5Sync(t *testing.T) {
	b := newBench(t, 4)
	want(t, "Sync of nothing", b.sync(), api.OK)
	b.look()
	for k, i := range []int{0, 1, 0, 2, 1, 0} {
		b.write(i, grain(k))
	}
	want(t, "Sync", b.sync(), api.OK)
	if got := b.d.Durable(); !bytes.Equal(got, slices.Concat(grain(5), grain(4), grain(3))) {
		t.Errorf("Durable: %s", short(string(got)))
	}
	wantPending(t, b.d)
	b.look()
	b.crash(api.Fate{Kind: api.Kept}, api.Fate{Kind: api.Torn, At: 1})
	b.look()
	b.write(3, grain(9))
	want(t, "Sync", b.sync(), api.OK)
	want(t, "Sync again", b.sync(), api.OK)
	b.look()
}

// TestP12_5Fails: a Sync at which the power fails, or without it, makes nothing last, and all pends on.
func TestP12_5Fails(t *testing.T) {
	b := imageBench(t, 4, full(1))
	b.write(0, grain(2))
	b.write(1, grain(3))
	b.arm(1)
	for range 3 {
		want(t, "Sync", b.sync(), api.ErrPower)
		if !bytes.Equal(b.d.Durable(), full(1)) || len(b.d.Pending()) != 2 || b.d.Done() != 3 {
			t.Errorf("%d pages last, %d writes pend, %d are done", len(b.d.Durable())/api.PageSize, len(b.d.Pending()), b.d.Done())
		}
		b.look()
	}
	b.crash(api.Fate{Kind: api.Kept}, api.Fate{Kind: api.Kept})
	b.look()
	want(t, "Sync behind the Crash", b.sync(), api.OK)
}

// TestAnyCalls: whatever is done, all answers are the plain disk's.
func TestAnyCalls(t *testing.T) {
	for seed := range 8 {
		t.Run(fmt.Sprint(seed), func(t *testing.T) {
			t.Parallel()
			next := noise(uint64(seed + 1))
			for range 60 {
				b := newBench(t, 2+next(6))
				if next(2) == 0 {
					var image []byte
					for k := range next(b.p.cap + 1) {
						image = append(image, grain(k+50)...)
					}
					b = imageBench(t, b.p.cap, image)
				}
				for range 40 {
					b.step(next)
					b.look()
				}
			}
		})
	}
}
