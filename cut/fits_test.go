package cut_test

import (
	"math"
	"testing"

	"coppice/cut"
)

func TestP9_1Examples(t *testing.T) {
	if !cut.Fits(4092) || cut.Fits(4093) || cut.Fits(-1) {
		t.Error("Fits of 4092, 4093, -1")
	}
}

func TestP9_1AllSizes(t *testing.T) {
	for n := -5000; n <= 10000; n++ {
		if want := n >= 0 && n <= 4092; cut.Fits(n) != want {
			t.Errorf("Fits(%d): not %v", n, want)
		}
	}
}

// Sizes that would fit if only their low bits were looked at.
func TestP9_1FarBeyond(t *testing.T) {
	for _, n := range []int{1 << 16, 1<<16 + 5, 1 << 31, 1 << 32, 1<<32 + 5, math.MaxInt, math.MinInt, math.MinInt + 5, -1 << 32, -4092} {
		if cut.Fits(n) {
			t.Errorf("Fits(%d)", n)
		}
	}
}
