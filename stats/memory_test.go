package stats_test

import (
	"reflect"
	"slices"
	"sync"
	"testing"

	"coppice/api"
	"coppice/stats"
	"coppice/tree"
)

// answers are those of all calls about one tree.
type answers struct {
	sum       stats.Sum
	levels    []stats.Level
	parts     [][]int
	quantiles []float64
	errors    []api.Errno
}

// askedOf asks a tree for all, at some arguments, wrong ones too.
func askedOf(x *tree.Tree) answers {
	a := answers{sum: stats.Of(x), levels: stats.Levels(x)}
	for _, n := range []int{-1, 0, 1, 2, 7, 100, 1000, 1001} {
		l, err := stats.Parts(x, n)
		a.parts, a.errors = append(a.parts, l), append(a.errors, err)
	}
	for _, q := range append(shares(noise(2250), 2), -1, 2) {
		f, err := stats.Quantile(x, q)
		a.quantiles, a.errors = append(a.quantiles, f), append(a.errors, err)
	}
	return a
}

// same tells whether all answers are the same.
func (a answers) same(b answers) bool {
	return a.sum == b.sum && slices.Equal(a.levels, b.levels) && slices.EqualFunc(a.parts, b.parts, slices.Equal[[]int]) &&
		slices.Equal(a.quantiles, b.quantiles) && slices.Equal(a.errors, b.errors)
}

// copied is a copy that shares no list.
func (a answers) copied() answers {
	b := a
	b.levels, b.parts = slices.Clone(a.levels), nil
	for _, l := range a.parts {
		b.parts = append(b.parts, slices.Clone(l))
	}
	return b
}

// spoil writes over a list and its spare room.
func spoil[T any](l []T, with T) {
	l = l[:cap(l)]
	for i := range l {
		l[i] = with
	}
}

// TestP22_5Unchanged: a tree is as it was, whatever was asked.
func TestP22_5Unchanged(t *testing.T) {
	t.Parallel()
	for _, g := range groves(t) {
		nodes, fresh, numbers := g.x.Nodes(), g.x.Fresh(), g.x.Numbers()
		askedOf(g.x)
		if !reflect.DeepEqual(g.x.Nodes(), nodes) || g.x.Fresh() != fresh || !slices.Equal(g.x.Numbers(), numbers) {
			t.Errorf("%s: the tree has changed", g.name)
		}
	}
}

// TestP22_5Again: the same is answered again, whatever is written into the lists of the first answers; and no list shows what is written into another one.
func TestP22_5Again(t *testing.T) {
	t.Parallel()
	for _, g := range groves(t) {
		first, second := askedOf(g.x), askedOf(g.x)
		were := first.copied()
		spoil(first.levels, stats.Level{Level: -1, Mean: -1})
		for _, l := range first.parts {
			spoil(l, -1)
		}
		if !second.same(were) || !askedOf(g.x).same(were) {
			t.Errorf("%s: other answers the second time", g.name)
		}
	}
}

// TestP22_5Older: what becomes of a tree later is not seen in what is asked of it.
func TestP22_5Older(t *testing.T) {
	x := rowOf(t, 2000, 3000, 4092, 2500)
	was := askedOf(x)
	y := with(t, numbered(t, x, 2), begin(1)+"0", 9000)
	z, had := y.Without([]byte(begin(2) + "0"))
	if !had || askedOf(y).same(was) || askedOf(z).same(askedOf(y)) {
		t.Error("a change is not seen in the new tree")
	}
	if !askedOf(x).same(was) {
		t.Error("a change is seen in the old tree")
	}
}

// TestP22_5AtOnce: many ask one tree at the same time.
func TestP22_5AtOnce(t *testing.T) {
	x := rowOf(t, anySizes(noise(2251), 50)...)
	want := askedOf(x)
	got := make([]answers, 8)
	var wait sync.WaitGroup
	for i := range got {
		wait.Go(func() { got[i] = askedOf(x) })
	}
	wait.Wait()
	for i, a := range got {
		if !a.same(want) {
			t.Errorf("other answers for the one at %d", i)
		}
	}
}
