package disk_test

import (
	"bytes"
	"slices"
	"sync"
	"sync/atomic"
	"testing"

	"coppice/api"
	"coppice/disk"
)

// together runs n goroutines, and waits for all of them.
func together(n int, f func(g int)) {
	var wg sync.WaitGroup
	for g := range n {
		wg.Go(func() { f(g) })
	}
	wg.Wait()
}

// even tells whether all bytes of a list are the same.
func even(b []byte) bool {
	return len(b) == 0 || bytes.Count(b, b[:1]) == len(b)
}

// TestP12_10ManyCounted: of many goroutines' calls none is lost, and each is counted once; each ends with a Sync, so nothing pends behind all of them.
func TestP12_10ManyCounted(t *testing.T) {
	t.Parallel()
	d, _ := disk.Image(40, make([]byte, 10*api.PageSize))
	together(8, func(g int) {
		for k := range 100 {
			d.Write((g+k)%10, full(byte(g)))
			d.Read((g + k) % 10)
			d.Read(-1)
			if k%10 == 9 {
				d.Sync()
			}
		}
	})
	if d.Done() != 8*110 || d.Reads() != 800 || d.Pages() != 10 || len(d.Pending()) != 0 {
		t.Errorf("Done %d, Reads %d, %d pages, %d pend", d.Done(), d.Reads(), d.Pages(), len(d.Pending()))
	}
}

// TestP12_10ManyReads: of many Reads at the same time none is left uncounted.
func TestP12_10ManyReads(t *testing.T) {
	t.Parallel()
	d, _ := disk.Image(2, full(1))
	d.Write(1, full(2))
	together(8, func(g int) {
		for k := range 4000 {
			d.Read(k % 2)
		}
	})
	if d.Reads() != 32000 {
		t.Errorf("Reads: %d, not 32000", d.Reads())
	}
}

// TestP12_10ManyPend: all writes of many goroutines pend, those of each in its own order.
func TestP12_10ManyPend(t *testing.T) {
	t.Parallel()
	d, _ := disk.Image(2, full(0))
	together(8, func(g int) {
		for k := range 50 {
			b := full(byte(g))
			b[0], b[api.PageSize-1] = byte(k), byte(k)
			d.Write(0, b)
			spoil(b)
		}
	})
	l := d.Pending()
	next := map[byte]byte{}
	for _, w := range l {
		g, k := w.Data[1], w.Data[0]
		if g > 7 || k != next[g] || w.Data[api.PageSize-1] != k || !even(w.Data[1:api.PageSize-1]) {
			t.Fatalf("of %d: the write %d, where %d should be", g, k, next[g])
		}
		next[g]++
	}
	if len(l) != 400 {
		t.Errorf("%d writes pend, not 400", len(l))
	}
	wantRead(t, d, 0, l[len(l)-1].Data, api.OK)
}

// TestP12_10ManyPages: a page that is read is one that was written, whole, whatever goes on beside it.
func TestP12_10ManyPages(t *testing.T) {
	t.Parallel()
	d, _ := disk.Image(4, make([]byte, 4*api.PageSize))
	together(8, func(g int) {
		for k := range 150 {
			d.Write(k%4, full(byte(8*k+g)))
			if b, err := d.Read((k + g) % 4); err != api.OK || len(b) != api.PageSize || !even(b) {
				t.Errorf("a page of %d bytes that nobody wrote, %d", len(b), err)
			}
			switch {
			case g == 0 && k%5 == 0:
				d.Sync()
			case g == 1 && k%7 == 0:
				d.Crash([]api.Fate{{Kind: api.Kept}, {}, {Kind: api.Kept}, {Kind: api.Torn, At: api.PageSize}})
			}
			for _, w := range d.Pending() {
				if w.No < 0 || w.No > 3 || len(w.Data) != api.PageSize || !even(w.Data) {
					t.Errorf("a write pends that nobody made: page %d, %d bytes", w.No, len(w.Data))
				}
			}
			for at, b := 0, d.Durable(); at < len(b); at += api.PageSize {
				if !even(b[at : at+api.PageSize]) {
					t.Error("a page lasts that nobody wrote")
				}
			}
		}
	})
}

// TestP12_10ManySync: a Sync is done whole, and so is a Crash: what lasts is of one round, in all pages.
func TestP12_10ManySync(t *testing.T) {
	t.Parallel()
	d, _ := disk.Image(16, make([]byte, 16*api.PageSize))
	var over atomic.Bool
	together(6, func(g int) {
		if g > 0 {
			for !over.Load() {
				if b := d.Durable(); len(b) != 16*api.PageSize || !even(b) {
					t.Error("half a Sync was to be seen")
				}
				if n := len(d.Pending()); n > 16 {
					t.Errorf("%d writes pend", n)
				}
			}
			return
		}
		defer over.Store(true)
		for k := range 150 {
			for i := range 16 {
				d.Write(i, full(byte(k)))
			}
			if k%2 == 0 {
				d.Sync()
			} else {
				d.Crash(slices.Repeat([]api.Fate{{Kind: api.Kept}}, 16))
			}
		}
	})
}

// TestP12_10ManyAsk: whatever is asked beside all that is done, the counts never fall, and nothing is beyond the cap.
func TestP12_10ManyAsk(t *testing.T) {
	t.Parallel()
	d, _ := disk.Image(8, make([]byte, 4*api.PageSize))
	together(8, func(g int) {
		done, reads := 0, 0
		for k := range 200 {
			switch (g + k) % 8 {
			case 0:
				d.Arm(k % 9)
			case 1:
				d.Crash([]api.Fate{{Kind: api.Kept}, {}, {Kind: api.Torn, At: 2000}})
			case 2:
				d.Sync()
			case 3:
				d.Rot(k%4, k, 1)
			default:
				d.Write(d.Pages()%8, full(byte(k)))
			}
			d.Read(k % 8)
			d.Power()
			if n := d.Done(); n < done {
				t.Errorf("Done: %d behind %d", n, done)
			} else {
				done = n
			}
			if n := d.Reads(); n < reads {
				t.Errorf("Reads: %d behind %d", n, reads)
			} else {
				reads = n
			}
			if n := d.Pages(); n < 4 || n > d.Cap() || len(d.Durable()) > 8*api.PageSize {
				t.Errorf("%d pages", n)
			}
		}
	})
}

// TestP12_10ManyRot: a Rot is done whole: as the page lasts and in what pends, at one time.
func TestP12_10ManyRot(t *testing.T) {
	t.Parallel()
	d, _ := disk.Image(2, full(0))
	for range 100 {
		d.Write(0, full(0))
	}
	together(6, func(g int) {
		for range 300 {
			if g < 3 {
				d.Rot(0, 0, 1)
				continue
			}
			first := d.Pending()
			for _, w := range first {
				if w.Data[0] != first[0].Data[0] {
					t.Error("half a Rot was to be seen")
					return
				}
			}
		}
	})
	if b, _ := d.Read(0); b[0] != 0 || d.Durable()[0] != 0 {
		t.Error("of 900 times one was lost")
	}
}

// TestP12_10ManyArm: the power fails once, at the call that it was armed for, whoever makes it.
func TestP12_10ManyArm(t *testing.T) {
	t.Parallel()
	for _, k := range []int{1, 2, 50, 400, 799, 800} {
		d, _ := disk.Image(4, make([]byte, 4*api.PageSize))
		d.Arm(k)
		var fine, refused atomic.Int64
		together(8, func(g int) {
			for i := range 100 {
				if d.Write(i%4, full(byte(g))) == api.OK {
					fine.Add(1)
				} else {
					refused.Add(1)
				}
			}
		})
		if fine.Load() != int64(k-1) || refused.Load() != int64(801-k) || d.Done() != k || len(d.Pending()) != k || d.Power() {
			t.Errorf("armed by %d: %d fine, %d refused, Done %d, %d pend", k, fine.Load(), refused.Load(), d.Done(), len(d.Pending()))
		}
	}
}

// TestP12_10ManyGrow: a file that many make longer has no page left out, and none beyond its cap.
func TestP12_10ManyGrow(t *testing.T) {
	t.Parallel()
	d := disk.New(300)
	together(8, func(g int) {
		for {
			n := d.Pages()
			err := d.Write(n, full(byte(g+1)))
			if err == api.ErrCap {
				return
			}
			if b, readErr := d.Read(n); err != api.OK || readErr != api.OK || !even(b) || b[0] == 0 {
				t.Errorf("page %d: %d, %d", n, err, readErr)
				return
			}
		}
	})
	wantPages(t, d, 300)
	d.Sync()
	for at, b := 0, d.Durable(); at < 300*api.PageSize; at += api.PageSize {
		if b[at] == 0 {
			t.Fatal("a page was left out")
		}
	}
}
