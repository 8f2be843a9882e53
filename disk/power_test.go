package disk_test

import (
	"fmt"
	"math"
	"testing"

	"coppice/api"
	"coppice/disk"
)

// TestP12_6Arm: the power fails just at the k-th Write or Sync, whichever it is.
func TestP12_6Arm(t *testing.T) {
	for k := 1; k <= 6; k++ {
		for syncs := range 1 << 6 {
			b := imageBench(t, 3, full(1))
			b.write(1, full(2))
			want(t, "Arm", b.arm(k), api.OK)
			for i := 1; i <= 6; i++ {
				wanted := api.OK
				if i >= k {
					wanted = api.ErrPower
				}
				if syncs>>(i-1)&1 == 1 {
					want(t, fmt.Sprintf("armed by %d: the Sync %d", k, i), b.sync(), wanted)
				} else {
					want(t, fmt.Sprintf("armed by %d: the Write %d", k, i), b.write(i%3, full(byte(i))), wanted)
				}
				if on := i < k; b.d.Power() != on {
					t.Fatalf("armed by %d, behind %d calls: Power %v", k, i, !on)
				}
			}
			b.look()
		}
	}
}

// TestP12_6NotCounted: what is refused doesn't bring the power nearer to its end, nor does what only asks.
func TestP12_6NotCounted(t *testing.T) {
	b := imageBench(t, 3, full(1))
	b.write(1, full(2))
	b.write(2, full(2))
	b.arm(2)
	idle := func() {
		b.write(4, full(3))
		b.write(-1, full(3))
		b.write(3, full(3))
		b.write(0, full(3)[:4095])
		b.rot(0, 1, 1)
		b.rot(7, 1, 1)
		b.arm(-1)
		b.look()
	}
	for range 3 {
		idle()
	}
	want(t, "the first Write", b.write(0, full(4)), api.OK)
	for range 3 {
		idle()
	}
	want(t, "the second Write", b.write(0, full(5)), api.ErrPower)
	idle()
}

// TestP12_6Zero: Arm(0) takes a failing power back.
func TestP12_6Zero(t *testing.T) {
	b := newBench(t, 2)
	b.arm(1)
	want(t, "Arm(0)", b.arm(0), api.OK)
	for k := range 20 {
		want(t, "Write", b.write(k%2, full(1)), api.OK)
		want(t, "Sync", b.sync(), api.OK)
	}
	b.look()
}

// TestP12_6TakesThePlace: a new Arm counts from itself on, whether it is nearer or farther than the old one.
func TestP12_6TakesThePlace(t *testing.T) {
	for _, c := range [][3]int{{3, 1, 2}, {3, 2, 1}, {2, 1, 5}, {5, 0, 1}, {5, 4, 5}} {
		b := newBench(t, 2)
		b.arm(c[0])
		for range c[1] {
			want(t, "a Sync ahead of the new Arm", b.sync(), api.OK)
		}
		b.arm(c[2])
		for range c[2] - 1 {
			want(t, "a Write ahead of the end", b.write(0, full(1)), api.OK)
		}
		want(t, "the Write at which the power fails", b.write(0, full(2)), api.ErrPower)
		b.look()
	}
}

// TestP12_6Errors: a number below 0 is told ahead of the power; neither changes anything.
func TestP12_6Errors(t *testing.T) {
	b := newBench(t, 2)
	b.arm(2)
	for _, k := range []int{-1, -2, math.MinInt} {
		want(t, fmt.Sprintf("Arm(%d)", k), b.arm(k), api.ErrArg)
	}
	want(t, "the first Sync", b.sync(), api.OK)
	want(t, "the second Sync", b.sync(), api.ErrPower)
	for _, k := range []int{-1, -2, math.MinInt} {
		want(t, fmt.Sprintf("Arm(%d) without power", k), b.arm(k), api.ErrArg)
	}
	for _, k := range []int{0, 1, 2, math.MaxInt} {
		want(t, fmt.Sprintf("Arm(%d) without power", k), b.arm(k), api.ErrPower)
	}
	if b.d.Power() {
		t.Error("the power is on")
	}
	b.look()
	b.crash()
	b.look()
	for range 5 {
		want(t, "Sync behind a Crash", b.sync(), api.OK)
	}
}

// TestP12_6Far: the greatest numbers are far away.
func TestP12_6Far(t *testing.T) {
	for _, k := range []int{math.MaxInt, math.MaxInt - 1, 1 << 32, 1 << 31} {
		b := newBench(t, 2)
		b.sync()
		want(t, fmt.Sprintf("Arm(%d)", k), b.arm(k), api.OK)
		for range 20 {
			want(t, "Write", b.write(0, full(1)), api.OK)
		}
		b.look()
	}
}

// TestP12_6Power: the power is off from its failing on till the next Crash, whatever is tried meanwhile.
func TestP12_6Power(t *testing.T) {
	b := imageBench(t, 3, full(1))
	for round := range 3 {
		if !b.d.Power() {
			t.Fatal("the power is off at the beginning of a round")
		}
		b.arm(1)
		if !b.d.Power() {
			t.Error("the power is off as soon as it is armed")
		}
		b.write(round, grain(round))
		for range 3 {
			b.write(0, full(9))
			b.sync()
			b.arm(0)
			b.rot(0, 1, 1)
			b.look()
			if b.d.Power() {
				t.Error("the power came back by itself")
			}
		}
		b.crash(api.Fate{Kind: api.Kept})
		b.look()
	}
}

// TestP12_6CrashDisarms: behind a Crash the disk is not armed, even if the power had not failed yet.
func TestP12_6CrashDisarms(t *testing.T) {
	b := newBench(t, 2)
	b.arm(2)
	b.write(0, full(1))
	b.crash(api.Fate{Kind: api.Kept})
	for range 10 {
		want(t, "Write", b.write(0, full(1)), api.OK)
	}
	b.look()
}

// TestP12_9Done: what is counted, and what is not.
func TestP12_9Done(t *testing.T) {
	d := disk.New(2)
	done := func(n int) {
		t.Helper()
		if d.Done() != n {
			t.Errorf("Done: %d, not %d", d.Done(), n)
		}
	}
	done(0)
	d.Write(1, full(1))
	d.Write(0, nil)
	done(0)
	d.Write(0, full(1))
	done(1)
	d.Sync()
	d.Sync()
	done(3)
	d.Write(1, full(1))
	d.Write(2, full(1))
	done(4)
	d.Arm(2)
	d.Read(0)
	d.Rot(0, 0, 1)
	d.Pending()
	d.Durable()
	done(4)
	d.Sync()
	d.Sync()
	done(6)
	d.Sync()
	d.Write(0, full(1))
	done(6)
	d.Crash(nil)
	done(6)
	d.Arm(1)
	d.Write(0, full(1))
	done(7)
	d.Crash([]api.Fate{{Kind: api.Kept}})
	d.Sync()
	done(8)
}

// TestP12_9Reads: just the Reads that answered OK are counted, of what pends and of what lasts.
func TestP12_9Reads(t *testing.T) {
	d, _ := disk.Image(3, full(1))
	reads := func(n int) {
		t.Helper()
		if d.Reads() != n {
			t.Errorf("Reads: %d, not %d", d.Reads(), n)
		}
	}
	reads(0)
	d.Read(-1)
	d.Read(1)
	reads(0)
	d.Read(0)
	d.Read(0)
	reads(2)
	d.Write(1, full(2))
	d.Read(1)
	reads(3)
	d.Pages()
	d.Pending()
	d.Durable()
	reads(3)
	d.Arm(1)
	d.Sync()
	d.Read(0)
	d.Read(1)
	d.Read(2)
	reads(3)
	d.Crash(nil)
	reads(3)
	d.Read(0)
	d.Read(1)
	reads(4)
}

// TestP12_9WithoutPower: what is asked without power is answered all the same.
func TestP12_9WithoutPower(t *testing.T) {
	b := imageBench(t, 4, grain(1))
	b.write(1, grain(2))
	b.write(0, grain(3))
	b.d.Read(0)
	b.p.reads++
	b.arm(1)
	b.write(2, grain(4))
	wantPending(t, b.d, api.Write{No: 1, Data: grain(2)}, api.Write{No: 0, Data: grain(3)}, api.Write{No: 2, Data: grain(4)})
	if string(b.d.Durable()) != string(grain(1)) || b.d.Done() != 3 || b.d.Reads() != 1 || b.d.Pages() != 3 || b.d.Cap() != 4 {
		t.Error("it tells less without power")
	}
	b.look()
}
