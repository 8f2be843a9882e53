package bulk_test

import (
	"bytes"
	"fmt"
	"slices"
	"testing"

	"coppice/api"
	"coppice/bulk"
	"coppice/check"
	"coppice/disk"
	"coppice/pager"
)

// newDisk is a disk of no page.
func newDisk(t *testing.T, cap int) *disk.Disk {
	t.Helper()
	d := disk.New(cap)
	if d == nil {
		t.Fatalf("no disk of cap %d", cap)
	}
	return d
}

// image is a disk that holds a file.
func image(t *testing.T, cap int, file []byte) *disk.Disk {
	t.Helper()
	d, err := disk.Image(cap, file)
	if err != api.OK {
		t.Fatalf("Image: %d", err)
	}
	return d
}

// holds asks whether a disk holds just this file, and nothing pends.
func holds(t *testing.T, what string, d *disk.Disk, file []byte) {
	t.Helper()
	if got := d.Durable(); !bytes.Equal(got, file) || d.Pages() != len(file)/4096 || len(d.Pending()) > 0 {
		t.Errorf("%s: the disk holds %d bytes, not just these %d; %d pages, %d writes pend", what, len(got), len(file), d.Pages(), len(d.Pending()))
	}
}

// state is how a disk stands, as far as it can be asked without a change.
func state(d *disk.Disk) string {
	return fmt.Sprint(d.Pages(), d.Power(), d.Done(), d.Reads(), len(d.Pending()), len(d.Durable())) + string(d.Durable())
}

// untouched asks for an error of Load with nothing done.
func untouched(t *testing.T, what string, d *disk.Disk, l []api.Pair, err api.Errno) {
	t.Helper()
	was := state(d)
	if e := bulk.Load(d, l); e != err {
		t.Errorf("%s: Load is %d, not %d", what, e, err)
	}
	if state(d) != was {
		t.Errorf("%s: something was done with the disk", what)
	}
}

// counts are how many Writes and Syncs a Load does that ends well, and how many Reads.
func counts(pages int) (int, int) {
	if pages == 2 {
		return 5, 2
	}
	return 5 + pages - 2 + 4, 2
}

// isLoaded asks whether Load leaves the file that the chapter's words make, and tells it.
func isLoaded(t *testing.T, what string, cap int, l []api.Pair) []byte {
	t.Helper()
	d := newDisk(t, cap)
	if err := bulk.Load(d, l); err != api.OK {
		t.Fatalf("%s: Load is %d", what, err)
	}
	file := plainFile(t, l)
	holds(t, what, d, file)
	if done, reads := counts(len(file) / 4096); d.Done() != done || d.Reads() != reads {
		t.Errorf("%s: %d Writes and Syncs, %d Reads, not %d, %d", what, d.Done(), d.Reads(), done, reads)
	}
	return file
}

// TestP21_2Examples: the chapter's.
func TestP21_2Examples(t *testing.T) {
	file := isLoaded(t, "nine", 5, letters(9, 500))
	f, _, err := check.Open(file)
	if want := (api.Head{Version: 2, Count: 5, Root: 4, Height: 2, Keys: 9}); len(file) != 5*4096 || err != api.OK || f.Head() != want {
		t.Fatalf("nine: %d bytes, %d", len(file), err)
	}
	for i, n := range f.Tree().Nodes() {
		if n.No != 2+i {
			t.Errorf("node %d has the number %d", i, n.No)
		}
	}
	if file := isLoaded(t, "eight", 9, letters(8, 500)); len(file) != 3*4096 {
		t.Errorf("eight: %d bytes", len(file))
	}
	d := newDisk(t, 4)
	if err := bulk.Load(d, letters(9, 500)); err != api.ErrFull {
		t.Errorf("cap 4: %d", err)
	}
	holds(t, "cap 4", d, emptyFile(t))
	untouched(t, "formatted", d, letters(1, 1), api.ErrUsed)
}

// TestP21_2None: of no pair nothing is committed.
func TestP21_2None(t *testing.T) {
	for _, cap := range []int{2, 3, 524287} {
		isLoaded(t, "nil", cap, nil)
		isLoaded(t, "no pair", cap, []api.Pair{})
	}
}

// TestP21_2Woods: pairs of all kinds, onto disks that just hold them, or more.
func TestP21_2Woods(t *testing.T) {
	for _, w := range woods() {
		t.Run(w.name, func(t *testing.T) {
			t.Parallel()
			next := noise(2120)
			for range 6 {
				isLoaded(t, w.name, 5000, w.some(next, next(w.pairs)))
			}
		})
	}
}

// TestP21_2High: branches above branches above branches.
func TestP21_2High(t *testing.T) {
	t.Parallel()
	file := isLoaded(t, "high", 400, ladder(2, longs(280)...))
	if f, _, err := check.Open(file); err != api.OK || f.Head().Height != 4 {
		t.Errorf("%d", err)
	}
}

// TestP21_2Full: with each cap below what is needed ErrFull, and an accepted file of no pair is left.
func TestP21_2Full(t *testing.T) {
	for what, l := range map[string][]api.Pair{"one": letters(1, 0), "nine": letters(9, 500), "a chain": letters(2, 5000), "a long chain": letters(1, 262144)} {
		pages := len(plainFile(t, l)) / 4096
		for cap := 2; cap < pages; cap++ {
			d := newDisk(t, cap)
			if err := bulk.Load(d, l); err != api.ErrFull {
				t.Errorf("%s, cap %d of %d: %d", what, cap, pages, err)
			}
			holds(t, what, d, emptyFile(t))
			if d.Done() != 5 || !d.Power() {
				t.Errorf("%s, cap %d: %d Writes and Syncs", what, cap, d.Done())
			}
		}
		isLoaded(t, what, pages, l)
		isLoaded(t, what, pages+1, l)
	}
}

// TestP21_2Great: more pages than any disk holds.
func TestP21_2Great(t *testing.T) {
	value := fill(513, 1)
	var l []api.Pair
	for i := range api.MaxPages {
		l = append(l, api.Pair{Key: []byte{byte(i >> 16), byte(i >> 8), byte(i)}, Value: value})
	}
	d := newDisk(t, api.MaxPages)
	if err := bulk.Load(d, l); err != api.ErrFull {
		t.Errorf("a page a pair, and all the leaves: %d", err)
	}
	holds(t, "great", d, emptyFile(t))
}

// usedDisks are disks that have a page, each in a way of its own.
func usedDisks(t *testing.T) map[string]*disk.Disk {
	t.Helper()
	all := map[string]*disk.Disk{
		"one page of zeros": image(t, 9, make([]byte, 4096)),
		"two of them":       image(t, 9, make([]byte, 2*4096)),
		"formatted":         image(t, 9, emptyFile(t)),
		"loaded":            image(t, 9, plainFile(t, letters(9, 500))),
		"no room":           image(t, 2, emptyFile(t)),
		"a page that pends": newDisk(t, 9),
		"no power":          newDisk(t, 9),
	}
	all["a page that pends"].Write(0, make([]byte, 4096))
	all["no power"].Arm(1)
	all["no power"].Write(0, make([]byte, 4096))
	return all
}

func TestP21_2Used(t *testing.T) {
	for what, d := range usedDisks(t) {
		untouched(t, what, d, letters(9, 500), api.ErrUsed)
		untouched(t, what+", no pair", d, nil, api.ErrUsed)
		untouched(t, what+", a wrong size", d, []api.Pair{{}}, api.ErrSize)
		untouched(t, what+", a wrong order", d, []api.Pair{pair("b", 0), pair("a", 0)}, api.ErrOrder)
	}
	d := newDisk(t, 9)
	untouched(t, "new, a wrong size", d, append(letters(9, 500), pair("", 0)), api.ErrSize)
	untouched(t, "new, a wrong order", d, append(letters(9, 500), pair("a", 0)), api.ErrOrder)
	d.Write(0, make([]byte, 4096))
	d.Crash(nil) // the page is gone
	if err := bulk.Load(d, letters(9, 500)); err != api.OK {
		t.Errorf("behind a Crash that left no page: %d", err)
	}
	holds(t, "behind a Crash that left no page", d, plainFile(t, letters(9, 500)))
	untouched(t, "a second time", d, letters(9, 500), api.ErrUsed)
}

// TestP21_2NoPower: a disk of no page whose power is off: Format's error; what is wrong with the pairs goes ahead of it.
func TestP21_2NoPower(t *testing.T) {
	d := newDisk(t, 9)
	d.Arm(1)
	if err := d.Sync(); err != api.ErrPower || d.Pages() != 0 {
		t.Fatalf("Sync: %d", err)
	}
	untouched(t, "no power", d, letters(9, 500), api.ErrPower)
	untouched(t, "no power, no pair", d, nil, api.ErrPower)
	untouched(t, "no power, a wrong size", d, []api.Pair{{}}, api.ErrSize)
	d.Crash(nil)
	d.Arm(1)
	untouched(t, "armed", d, []api.Pair{{}}, api.ErrSize)
	if err := bulk.Load(d, letters(9, 500)); err != api.ErrPower || d.Done() != 2 {
		t.Errorf("a Load that was refused took the Arm away: %d", err)
	}
}

// steps are all Writes of a Load, in lists that a Sync ends.
func steps(t *testing.T, l []api.Pair) [][]api.Write {
	t.Helper()
	file, zeros := plainFile(t, l), make([]byte, 4096)
	one := headPage(t, api.Head{Version: 1, Count: 2})
	all := [][]api.Write{{{No: 0, Data: zeros}, {No: 1, Data: zeros}}, {{No: 1, Data: one}}}
	if len(l) == 0 {
		return all
	}
	var pages []api.Write
	for no := 2; no < len(file)/4096; no++ {
		pages = append(pages, api.Write{No: no, Data: file[no*4096 : (no+1)*4096]})
	}
	return append(all, append(pages, api.Write{No: 0, Data: zeros}), []api.Write{{No: 0, Data: file[:4096]}})
}

// pendsAt tells what pends if the power fails at the k-th Write or Sync, from 1 on; false, if there are fewer.
func pendsAt(all [][]api.Write, k int) ([]api.Write, bool) {
	for _, l := range all {
		if k <= len(l)+1 {
			return l[:min(k, len(l))], true
		}
		k -= len(l) + 1
	}
	return nil, false
}

// TestP21_2Steps: the power fails at each Write and Sync: so what is written, in which order, and when it is made to last.
func TestP21_2Steps(t *testing.T) {
	same := func(x, y api.Write) bool { return x.No == y.No && bytes.Equal(x.Data, y.Data) }
	for what, l := range map[string][]api.Pair{"none": nil, "one": letters(1, 3), "nine": letters(9, 500), "chains": append(letters(3, 9000), letters(20, 500)[3:]...), "high": ladder(1, longs(20)...)} {
		all := steps(t, l)
		for k := 1; ; k++ {
			pends, more := pendsAt(all, k)
			if !more {
				if done, _ := counts(len(plainFile(t, l)) / 4096); k != done+1 {
					t.Errorf("%s: %d Writes and Syncs are known, not %d", what, k-1, done)
				}
				break
			}
			d := newDisk(t, 60)
			d.Arm(k)
			if err := bulk.Load(d, l); err != api.ErrPower || d.Done() != k || d.Power() {
				t.Fatalf("%s, at %d: %d, %d Writes and Syncs", what, k, err, d.Done())
			}
			if got := d.Pending(); !slices.EqualFunc(got, pends, same) {
				t.Errorf("%s, at %d: %d writes pend, not these %d", what, k, len(got), len(pends))
			}
		}
	}
}

// TestP21_2Crash: once Format is over, whatever survives a Load that the power ended is a file of no pair, or of all.
func TestP21_2Crash(t *testing.T) {
	next := noise(2122)
	l := append(letters(2, 5000), letters(20, 500)[2:]...)
	none, all := 0, 0
	done, _ := counts(len(plainFile(t, l)) / 4096)
	for k := 6; k <= done; k++ {
		for range 12 {
			d := newDisk(t, 60)
			d.Arm(k)
			if err := bulk.Load(d, l); err != api.ErrPower {
				t.Fatalf("at %d: %d", k, err)
			}
			var fates []api.Fate
			for range d.Pending() {
				fates = append(fates, api.Fate{Kind: next(3), At: next(4097)})
			}
			d.Crash(fates)
			b, at, err := pager.Load(d)
			if err != api.OK {
				t.Fatalf("at %d: refused with %d at %d", k, err, at)
			}
			switch b.Tree().Len() {
			case 0:
				none++
			case len(l):
				all++
			default:
				t.Errorf("at %d: %d pairs", k, b.Tree().Len())
			}
		}
	}
	if none == 0 || all == 0 {
		t.Errorf("no pair %d times, all %d times", none, all)
	}
}
