package stats_test

import (
	"fmt"
	"math"
	"math/big"
	"slices"
	"strings"
	"testing"

	"coppice/api"
	"coppice/stats"
	"coppice/tree"
)

// noise tells numbers from 0 on, below the one it is given; the same ones for the same seed.
func noise(seed uint64) func(n int) int {
	return func(n int) int {
		seed = seed*6364136223846793005 + 1442695040888963407
		return int((seed >> 33) % uint64(n))
	}
}

// exact is a float as a fraction.
func exact(x float64) *big.Rat { return new(big.Rat).SetFloat64(x) }

// nearest is the float nearest to a fraction, ties to even.
func nearest(r *big.Rat) float64 {
	f, _ := r.Float64()
	return f
}

// The chapter's words for floats: each is reckoned in fractions, and rounded by itself.
func plainF(x int) float64          { return nearest(big.NewRat(int64(x), 1)) }
func plainQuo(a, b float64) float64 { return nearest(new(big.Rat).Quo(exact(a), exact(b))) }
func plainMul(a, b float64) float64 { return nearest(new(big.Rat).Mul(exact(a), exact(b))) }
func plainAdd(a, b float64) float64 { return nearest(new(big.Rat).Add(exact(a), exact(b))) }
func plainSub(a, b float64) float64 { return nearest(new(big.Rat).Sub(exact(a), exact(b))) }

// plainRoot finds the last float whose square is not above x, and takes it or the next one, by the square of what lies in the middle of both.
func plainRoot(x float64) float64 {
	notAbove := func(r *big.Rat) bool { return new(big.Rat).Mul(r, r).Cmp(exact(x)) <= 0 }
	low, high := uint64(0), math.Float64bits(math.MaxFloat64)
	for low < high {
		mid := low + (high-low+1)/2
		if notAbove(exact(math.Float64frombits(mid))) {
			low = mid
		} else {
			high = mid - 1
		}
	}
	a, b := math.Float64frombits(low), math.Float64frombits(low+1)
	middle := new(big.Rat).Add(exact(a), exact(b))
	if notAbove(middle.Quo(middle, big.NewRat(2, 1))) {
		return b
	}
	return a
}

// plainV tells how many bytes a number's least form has: one for each seven bits.
func plainV(x int) int {
	n := 1
	for ; x >= 128; x /= 128 {
		n++
	}
	return n
}

// plainCommon tells how many bytes all strings begin with: the first one is shortened till it begins all.
func plainCommon(l []string) int {
	if len(l) == 0 {
		return 0
	}
	head := l[0]
	for _, s := range l {
		for !strings.HasPrefix(s, head) {
			head = head[:len(head)-1]
		}
	}
	return len(head)
}

// plainSize adds up P4.1's or P5.1's numbers.
func plainSize(n api.Node) int {
	var names []string
	for _, p := range n.Pairs {
		names = append(names, string(p.Key))
	}
	for _, s := range n.Seps {
		names = append(names, string(s))
	}
	common := plainCommon(names)
	size := 3 + plainV(common) + common
	each := 2
	if n.Level > 0 {
		size, each = size+9, 10
	}
	for _, s := range names {
		size += each + plainV(len(s)-common) + len(s) - common
	}
	for _, p := range n.Pairs {
		if v := len(p.Value); v > 512 {
			size += plainV(2*v+1) + 4
		} else {
			size += plainV(2*v) + v
		}
	}
	return size
}

// plainSizes are the sizes of a level's nodes, from the left to the right.
func plainSizes(nodes []api.Node, level int) []int {
	var l []int
	for _, n := range nodes {
		if n.Level == level {
			l = append(l, plainSize(n))
		}
	}
	return l
}

func plainOf(nodes []api.Node) stats.Sum {
	var s stats.Sum
	for _, n := range nodes {
		s.Pages++
		s.Used += plainSize(n)
		for _, p := range n.Pairs {
			s.Keys++
			s.KeyBytes += len(p.Key)
			s.ValueBytes += len(p.Value)
			if len(p.Value) > 512 {
				s.Used += len(p.Value)
				for left := len(p.Value); left > 0; left -= 4085 {
					s.Pages++
				}
			}
		}
	}
	if s.Pages > 0 {
		s.Fill = plainQuo(plainF(s.Used), plainF(s.Pages*4092))
	}
	return s
}

// plainLevel is what nodes of these sizes are like.
func plainLevel(level int, sizes []int) stats.Level {
	l := stats.Level{Level: level, Nodes: len(sizes), Least: sizes[0], Most: sizes[0]}
	for _, s := range sizes {
		l.Used += s
		if s < l.Least {
			l.Least = s
		}
		if s > l.Most {
			l.Most = s
		}
	}
	down, squares := l.Used/l.Nodes, 0
	for _, s := range sizes {
		squares += (s - down) * (s - down)
	}
	l.Mean = plainQuo(plainF(l.Used), plainF(l.Nodes*4092))
	l.Spread = plainQuo(plainRoot(plainQuo(plainF(squares), plainF(l.Nodes))), plainF(4092))
	return l
}

func plainLevels(nodes []api.Node) []stats.Level {
	var l []stats.Level
	for level := 0; ; level++ {
		sizes := plainSizes(nodes, level)
		if len(sizes) == 0 {
			return l
		}
		l = append(l, plainLevel(level, sizes))
	}
}

// plainParts asks of each part which leaves are in it.
func plainParts(sizes []int, n int) []int {
	l := make([]int, n)
	for i := range l {
		for _, s := range sizes {
			if i*4092 <= s*n && (s*n < (i+1)*4092 || i == n-1) {
				l[i]++
			}
		}
	}
	return l
}

func plainQuantile(sizes []int, q float64) float64 {
	s := slices.Sorted(slices.Values(sizes))
	n := len(s)
	p := plainMul(q, plainF(n-1))
	i := 0
	for plainF(i+1) <= p {
		i++
	}
	if i == n-1 {
		return plainQuo(plainF(s[i]), plainF(4092))
	}
	f := plainSub(p, plainF(i))
	return plainQuo(plainAdd(plainF(s[i]), plainMul(f, plainF(s[i+1]-s[i]))), plainF(4092))
}

// sameBits tells whether two floats are the same, the sign of a zero too.
func sameBits(a, b float64) bool { return math.Float64bits(a) == math.Float64bits(b) }

// told is a value with its floats in full.
func told(x any) string { return fmt.Sprintf("%+v", x) }

// ofIs asks for a Sum, bit by bit.
func ofIs(t *testing.T, what string, x *tree.Tree, want stats.Sum) {
	t.Helper()
	if s := stats.Of(x); s != want || !sameBits(s.Fill, want.Fill) {
		t.Errorf("%s: Of is %s, not %s", what, told(s), told(want))
	}
}

// levelsAre asks for these Levels, bit by bit.
func levelsAre(t *testing.T, what string, x *tree.Tree, want []stats.Level) {
	t.Helper()
	same := func(a, b stats.Level) bool { return a == b && sameBits(a.Mean, b.Mean) && sameBits(a.Spread, b.Spread) }
	if l := stats.Levels(x); !slices.EqualFunc(l, want, same) {
		t.Errorf("%s: Levels are %s, not %s", what, told(l), told(want))
	}
}

// partsAre asks for these Parts.
func partsAre(t *testing.T, what string, x *tree.Tree, n int, want []int) {
	t.Helper()
	if l, err := stats.Parts(x, n); err != api.OK || !slices.Equal(l, want) {
		t.Errorf("%s: Parts of %d are %v, %d, not %v", what, n, l, err, want)
	}
}

// quantileIs asks for a Quantile, bit by bit.
func quantileIs(t *testing.T, what string, x *tree.Tree, q, want float64) {
	t.Helper()
	if f, err := stats.Quantile(x, q); err != api.OK || !sameBits(f, want) {
		t.Errorf("%s: Quantile of %v is %v, %d, not %v", what, q, f, err, want)
	}
}
