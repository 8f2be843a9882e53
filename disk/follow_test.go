package disk_test

import (
	"bytes"
	"fmt"
	"slices"
	"testing"

	"coppice/api"
	"coppice/disk"
)

// TestP12_11LastWrite: with the power on, a page is its last Write that answered OK, or what Image had, or zeros.
func TestP12_11LastWrite(t *testing.T) {
	for seed := range 20 {
		next := noise(uint64(seed + 100))
		had := slices.Concat(grain(201), grain(202))
		d, _ := disk.Image(6, had)
		pages := [][]byte{grain(201), grain(202)}
		for range 60 {
			i, data := next(len(pages)+2), anyData(next)
			err := d.Write(i, data)
			if fine := i <= len(pages) && i < 6 && len(data) == api.PageSize; (err == api.OK) != fine {
				t.Fatalf("Write(%d, %d bytes) at %d pages: %d", i, len(data), len(pages), err)
			}
			if err == api.OK && i == len(pages) {
				pages = append(pages, nil)
			}
			if err == api.OK {
				pages[i] = data
			}
			if next(5) == 0 {
				d.Sync()
				if !bytes.Equal(d.Durable(), slices.Concat(pages...)) {
					t.Fatal("behind a Sync Durable is not what was written")
				}
			}
			for k, p := range pages {
				wantRead(t, d, k, p, api.OK)
			}
		}
	}
}

// TestP12_11Durable: behind a Sync that answered OK Durable is what Read tells, page by page; whatever was done ahead of it.
func TestP12_11Durable(t *testing.T) {
	for seed := range 30 {
		next := noise(uint64(seed + 200))
		b := newBench(t, 2+next(5))
		for range 60 {
			b.step(next)
			if next(4) > 0 || b.sync() != api.OK {
				continue
			}
			var all []byte
			for i := range b.d.Pages() {
				p, err := b.d.Read(i)
				b.p.reads++
				if err != api.OK {
					t.Fatalf("Read(%d): %d", i, err)
				}
				all = append(all, p...)
			}
			if !bytes.Equal(b.d.Durable(), all) {
				b.fail("Durable is not what Read tells")
			}
		}
	}
}

// TestP12_12NoFate: a Crash with no fate leaves what the last Sync, or New, Image or Crash, left.
func TestP12_12NoFate(t *testing.T) {
	for seed := range 30 {
		next := noise(uint64(seed + 300))
		d, _ := disk.Image(5, slices.Concat(grain(1), grain(2))[:next(3)*api.PageSize])
		left := d.Durable()
		for range 80 {
			switch n := next(10); {
			case n < 6:
				d.Write(next(d.Pages()+1), anyData(next))
			case n < 7:
				if d.Sync() == api.OK {
					left = d.Durable()
				}
			case n < 8:
				d.Arm(next(4))
			case n < 9:
				d.Crash(anyFates(next, 3))
				left = d.Durable()
			default:
				d.Crash([][]api.Fate{nil, {}}[next(2)])
				if !d.Power() || !bytes.Equal(d.Durable(), left) || d.Pages() != len(left)/api.PageSize {
					t.Fatal("a Crash with no fate has left something else")
				}
			}
			if !bytes.Equal(d.Durable(), left) {
				t.Fatal("something lasts that nobody made last")
			}
		}
	}
}

// twins are two disks with the same calls behind them.
func twins(t *testing.T, seed int) (a, b *bench) {
	t.Helper()
	both := []*bench{newBench(t, 5), newBench(t, 5)}
	for _, x := range both {
		next := noise(uint64(seed))
		for range 30 {
			x.write(next(x.p.pages()+1), anyData(next))
			if next(9) == 0 {
				x.sync()
			}
			if next(12) == 0 {
				x.crash(anyFates(next, len(x.p.log))...)
			}
		}
	}
	return both[0], both[1]
}

// TestP12_12AllKept: a Crash that keeps all leaves what a Sync would have left.
func TestP12_12AllKept(t *testing.T) {
	for seed := range 60 {
		a, b := twins(t, seed+400)
		var kept []api.Fate
		for k := range a.d.Pending() {
			kept = append(kept, []api.Fate{{Kind: api.Kept}, {Kind: api.Torn, At: api.PageSize}}[k*seed%2])
		}
		a.crash(kept...)
		b.sync()
		if !bytes.Equal(a.d.Durable(), b.d.Durable()) || a.d.Pages() != b.d.Pages() || len(a.d.Pending()) != 0 {
			a.fail("it leaves not what a Sync leaves")
		}
		a.look()
		b.look()
	}
}

// TestP12_12Image: behind a Crash, a disk that is made of what is durable can't be told from the old one.
func TestP12_12Image(t *testing.T) {
	for seed := range 40 {
		next := noise(uint64(seed + 500))
		old := newBench(t, 5)
		for range 40 {
			old.step(next)
		}
		old.crash(anyFates(next, len(old.p.log))...)
		fresh, err := disk.Image(5, old.d.Durable())
		if err != api.OK {
			t.Fatalf("Image of Durable: %d", err)
		}
		for range 40 {
			answers(t, next, old.d, fresh)
		}
	}
}

// answers does one thing with both disks, and asks that they tell the same.
func answers(t *testing.T, next func(int) int, a, b *disk.Disk) {
	t.Helper()
	i, data, fates, what := next(7)-1, anyData(next), anyFates(next, 4), next(9)
	told := [2]string{}
	for k, d := range []*disk.Disk{a, b} {
		var err api.Errno
		switch {
		case what < 6:
			err = d.Write(i, data)
		case what < 7:
			err = d.Sync()
		default:
			d.Crash(fates)
		}
		told[k] = fmt.Sprint(err, d.Pages(), string(d.Durable()))
		for i := range 6 {
			p, err := d.Read(i)
			told[k] += fmt.Sprint(err, string(p))
		}
	}
	if told[0] != told[1] {
		t.Fatal("they can be told from one another")
	}
}

// TestGreatDisk: many pages, in one go and in several, on a disk that holds as many as there may be.
func TestGreatDisk(t *testing.T) {
	d := disk.New(api.MaxPages)
	const n = 3000
	for i := range n {
		want(t, "Write", d.Write(i, grain(i)), api.OK)
	}
	wantPages(t, d, n)
	for i := 0; i < n; i += 2 {
		want(t, "Write again", d.Write(i, grain(i+n)), api.OK)
	}
	l := d.Pending()
	if len(l) != n+n/2 || l[n].No != 0 || l[len(l)-1].No != n-2 {
		t.Fatalf("%d writes pend", len(l))
	}
	fates := make([]api.Fate, len(l))
	for i := range fates {
		fates[i] = api.Fate{Kind: i % 2}
	}
	d.Crash(fates)
	wantPages(t, d, n)
	for i := range n {
		page := full(0)
		switch {
		case i%2 == 1:
			page = grain(i)
		case i%4 == 2:
			page = grain(i + n)
		}
		wantRead(t, d, i, page, api.OK)
	}
	if b := d.Durable(); len(b) != n*api.PageSize || !bytes.Equal(b[(n-1)*api.PageSize:], grain(n-1)) {
		t.Errorf("Durable: %d bytes", len(b))
	}
}
