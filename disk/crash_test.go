package disk_test

import (
	"bytes"
	"fmt"
	"math"
	"slices"
	"testing"

	"coppice/api"
)

// allFates are fates of every sort: lost, kept, torn at every edge, and kinds that the document doesn't name.
func allFates() []api.Fate {
	l := []api.Fate{{}, {Kind: api.Lost, At: 100}, {Kind: api.Kept}, {Kind: api.Kept, At: 7}, {Kind: 3, At: 9}, {Kind: -1, At: 4096}}
	for _, at := range []int{math.MinInt, -1, 0, 1, 2000, 4095, 4096, 4097, math.MaxInt} {
		l = append(l, api.Fate{Kind: api.Torn, At: at})
	}
	return l
}

// TestP12_7OneWrite: each fate of one write, over a page that lasts and behind the last one.
func TestP12_7OneWrite(t *testing.T) {
	old, new := grain(1), grain(2)
	torn := func(n int) []byte { return slices.Concat(new[:n], old[n:]) }
	fresh := func(n int) []byte { return slices.Concat(new[:n], make([]byte, api.PageSize-n)) }
	for _, c := range []struct {
		fate  api.Fate
		n     int
		lands bool
	}{
		{api.Fate{}, 0, false}, {api.Fate{Kind: api.Lost, At: 4096}, 0, false},
		{api.Fate{Kind: api.Kept}, 4096, true}, {api.Fate{Kind: api.Kept, At: 5}, 4096, true}, {api.Fate{Kind: api.Kept, At: -5}, 4096, true},
		{api.Fate{Kind: api.Torn}, 0, true}, {api.Fate{Kind: api.Torn, At: -1}, 0, true}, {api.Fate{Kind: api.Torn, At: math.MinInt}, 0, true},
		{api.Fate{Kind: api.Torn, At: 1}, 1, true}, {api.Fate{Kind: api.Torn, At: 4092}, 4092, true}, {api.Fate{Kind: api.Torn, At: 4095}, 4095, true},
		{api.Fate{Kind: api.Torn, At: 4096}, 4096, true}, {api.Fate{Kind: api.Torn, At: 4097}, 4096, true}, {api.Fate{Kind: api.Torn, At: math.MaxInt}, 4096, true},
		{api.Fate{Kind: 3, At: 9}, 0, false}, {api.Fate{Kind: 4}, 0, false}, {api.Fate{Kind: -1, At: 9}, 0, false},
		{api.Fate{Kind: math.MinInt}, 0, false}, {api.Fate{Kind: math.MaxInt}, 0, false}, {api.Fate{Kind: 1 << 32}, 0, false}, {api.Fate{Kind: 1<<32 + 1}, 0, false}, {api.Fate{Kind: 258, At: 7}, 0, false},
	} {
		b := imageBench(t, 3, old)
		b.write(0, new)
		b.crash(c.fate)
		if got := b.d.Durable(); !bytes.Equal(got, torn(c.n)) {
			t.Errorf("the fate %v over a page that lasts: %s", c.fate, short(string(got)))
		}
		b.look()
		b.write(1, new)
		b.crash(c.fate)
		wanted := torn(c.n)
		if c.lands {
			wanted = append(wanted, fresh(c.n)...)
		}
		if got := b.d.Durable(); !bytes.Equal(got, wanted) {
			t.Errorf("the fate %v of a new page: %s", c.fate, short(string(got)))
		}
		b.look()
	}
}

// orders are all lists of up to n numbers in which pages may be written one behind the other, on a disk of that many pages and that cap.
func orders(n, pages, cap int) [][]int {
	all := [][]int{nil}
	if n == 0 {
		return all
	}
	for i := range min(pages+1, cap) {
		for _, l := range orders(n-1, max(pages, i+1), cap) {
			all = append(all, append([]int{i}, l...))
		}
	}
	return all
}

// TestP12_7AllFates: every row of these fates of up to two writes, and of a few of them of three, in all orders that there are, on disks of no page, one, and two.
func TestP12_7AllFates(t *testing.T) {
	fates := allFates()
	for pages := range 3 {
		for _, order := range orders(2, pages, 3) {
			t.Run(fmt.Sprint(pages, order), func(t *testing.T) {
				t.Parallel()
				crashEach(t, pages, order, fates)
			})
		}
		for _, order := range orders(3, pages, 3) {
			t.Run(fmt.Sprint(pages, order), func(t *testing.T) {
				t.Parallel()
				crashEach(t, pages, order, []api.Fate{{}, {Kind: api.Kept}, {Kind: api.Torn, At: 0}, {Kind: api.Torn, At: 1000}, {Kind: api.Torn, At: 3000}})
			})
		}
	}
}

// crashEach writes pages in that order, and crashes with each row of these fates; with short rows and longer ones too.
func crashEach(t *testing.T, pages int, order []int, fates []api.Fate) {
	t.Helper()
	image := slices.Concat(grain(101), grain(102))[:pages*api.PageSize]
	rows := 1
	for range order {
		rows *= len(fates)
	}
	for row := range rows {
		var l []api.Fate
		for rest := row; len(l) < len(order); rest /= len(fates) {
			l = append(l, fates[rest%len(fates)])
		}
		for _, l := range [][]api.Fate{l, l[:max(0, len(l)-1)], append(slices.Clone(l), api.Fate{Kind: api.Kept})} {
			b := imageBench(t, 3, image)
			for k, i := range order {
				b.write(i, grain(k))
			}
			b.crash(l...)
			b.look()
		}
	}
}

// TestP12_7NoFate: writes for which the list has no fate are lost, and fates beyond the writes are nothing's.
func TestP12_7NoFate(t *testing.T) {
	for n := range 6 {
		b := newBench(t, 4)
		for i := range 4 {
			b.write(i, grain(i))
		}
		var l []api.Fate
		for range n {
			l = append(l, api.Fate{Kind: api.Kept})
		}
		b.crash(l...)
		wantPages(t, b.d, min(n, 4))
		b.look()
	}
}

// TestP12_7OneBehindAnother: writes of one page land in their order: a torn one leaves what the ones ahead of it brought.
func TestP12_7OneBehindAnother(t *testing.T) {
	b := imageBench(t, 2, full(1))
	for x := byte(2); x <= 5; x++ {
		b.write(0, full(x))
	}
	b.crash(api.Fate{Kind: api.Torn, At: 4000}, api.Fate{}, api.Fate{Kind: api.Torn, At: 10}, api.Fate{Kind: api.Torn, At: 5})
	wanted := slices.Concat(full(5)[:5], full(4)[:5], full(2)[:3990], full(1)[:96])
	if got := b.d.Durable(); !bytes.Equal(got, wanted) {
		t.Errorf("Durable: %s", short(string(got)))
	}
	b.look()
}

// TestP12_7Nothing: a Crash of a disk on which nothing pends changes nothing but the power.
func TestP12_7Nothing(t *testing.T) {
	b := newBench(t, 2)
	b.crash()
	b.look()
	b.crash(api.Fate{Kind: api.Kept}, api.Fate{Kind: api.Torn})
	b.look()
	wantPages(t, b.d, 0)
	b = imageBench(t, 2, grain(1))
	b.arm(1)
	b.sync()
	b.crash(api.Fate{Kind: api.Kept}, api.Fate{Kind: api.Torn})
	b.look()
	if !b.d.Power() || !bytes.Equal(b.d.Durable(), grain(1)) {
		t.Error("a Crash of nothing has changed something")
	}
}

// TestP12_7Behind: behind a Crash the old writes are forgotten: a second Crash, and a Sync, find nothing of them.
func TestP12_7Behind(t *testing.T) {
	for _, power := range []int{0, 4} {
		b := imageBench(t, 4, grain(1))
		b.arm(power)
		b.write(0, grain(2))
		b.write(1, grain(3))
		b.write(0, grain(4))
		b.write(2, grain(5))
		b.crash(api.Fate{Kind: api.Torn, At: 9})
		wantPending(t, b.d)
		wantRead(t, b.d, 0, slices.Concat(grain(2)[:9], grain(1)[9:]), api.OK)
		b.p.reads++
		b.look()
		b.crash(api.Fate{Kind: api.Kept}, api.Fate{Kind: api.Kept}, api.Fate{Kind: api.Kept}, api.Fate{Kind: api.Kept})
		b.look()
		b.write(1, grain(6))
		b.look()
		b.sync()
		b.look()
	}
}

// TestP12_8Rot: a byte is turned as it lasts, and in each write of that page that pends, once in each; no other page has changed.
func TestP12_8Rot(t *testing.T) {
	b := imageBench(t, 4, slices.Concat(grain(1), grain(2)))
	b.write(0, grain(3))
	b.write(1, grain(4))
	b.write(0, grain(5))
	b.write(2, grain(6))
	want(t, "Rot", b.rot(0, 100, 0x81), api.OK)
	turn := func(p []byte) []byte { p[100] ^= 0x81; return p }
	wantPending(t, b.d, api.Write{No: 0, Data: turn(grain(3))}, api.Write{No: 1, Data: grain(4)}, api.Write{No: 0, Data: turn(grain(5))}, api.Write{No: 2, Data: grain(6)})
	wantRead(t, b.d, 0, turn(grain(5)), api.OK)
	wantRead(t, b.d, 1, grain(4), api.OK)
	b.p.reads += 2
	if got := b.d.Durable(); !bytes.Equal(got, slices.Concat(turn(grain(1)), grain(2))) {
		t.Errorf("Durable: %s", short(string(got)))
	}
	b.look()
	b.sync()
	wantRead(t, b.d, 0, turn(grain(5)), api.OK)
	b.p.reads++
	b.look()
	want(t, "Rot again", b.rot(0, 100, 0x81), api.OK)
	wantRead(t, b.d, 0, grain(5), api.OK)
}

// TestP12_8Errors: which pages last, which bytes there are, and which error comes first.
func TestP12_8Errors(t *testing.T) {
	b := imageBench(t, 4, slices.Concat(grain(1), grain(2)))
	b.write(2, grain(3))
	for _, i := range append(oddNumbers(), 2, 3, 4) {
		for _, at := range []int{0, 4095, -1, 4096} {
			for _, x := range []int{1, 255, 0, 256} {
				want(t, fmt.Sprintf("Rot(%d, %d, %d)", i, at, x), b.rot(i, at, x), api.ErrNoPage)
			}
		}
	}
	for _, at := range append(oddNumbers(), 4096, 4097) {
		want(t, fmt.Sprintf("Rot(0, %d, 1)", at), b.rot(0, at, 1), api.ErrArg)
	}
	for _, x := range append(oddNumbers(), 0, 256, 257, 511, 512) {
		want(t, fmt.Sprintf("Rot(1, 0, %d)", x), b.rot(1, 0, x), api.ErrArg)
	}
	b.look()
	for _, at := range []int{0, 1, 4094, 4095} {
		for _, x := range []int{1, 2, 128, 254, 255} {
			want(t, fmt.Sprintf("Rot(1, %d, %d)", at, x), b.rot(1, at, x), api.OK)
		}
	}
	b.look()
	b.sync()
	want(t, "Rot of the page that lasts now", b.rot(2, 0, 1), api.OK)
	b.look()
}

// TestP12_8NoPower: the medium decays with the power off too, and what is left shows it.
func TestP12_8NoPower(t *testing.T) {
	b := imageBench(t, 3, slices.Concat(grain(1), grain(2)))
	b.write(1, grain(3))
	b.arm(1)
	b.write(0, grain(4))
	want(t, "Rot without power", b.rot(0, 7, 3), api.OK)
	want(t, "Rot without power", b.rot(1, 8, 4), api.OK)
	want(t, "Rot of no page without power", b.rot(2, 8, 4), api.ErrNoPage)
	want(t, "Rot of no byte without power", b.rot(0, 4096, 4), api.ErrArg)
	b.look()
	b.crash(api.Fate{Kind: api.Torn, At: 8}, api.Fate{Kind: api.Kept})
	b.look()
}

// TestP12_8Apart: pages that came from one Image, one Crash or one Sync decay each for itself.
func TestP12_8Apart(t *testing.T) {
	b := imageBench(t, 9, slices.Concat(full(0), full(0), full(0)))
	for i := range 5 {
		b.write(3+i, full(0))
	}
	b.crash(api.Fate{}, api.Fate{}, api.Fate{}, api.Fate{}, api.Fate{Kind: api.Torn, At: 0})
	b.write(8, full(0))
	b.sync()
	for i := range 9 {
		b.rot(i, 10*i, i+1)
		b.look()
	}
}
