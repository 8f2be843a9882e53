package walk_test

import (
	"fmt"
	"iter"
	"math"
	"strings"
	"sync"
	"testing"

	"coppice/tree"
	"coppice/walk"
)

func TestP11_1Examples(t *testing.T) {
	g := four(t)
	for _, c := range []struct{ lo, hi, want string }{
		{"b", "d", "b\x02c\x03"}, {"", "", "a\x01b\x02c\x03d\x04"}, {"bb", "", "c\x03d\x04"}, {"c", "b", ""}, {"", "c", "a\x01b\x02"},
		{"b", "b", ""}, {"d", "", "d\x04"}, {"dd", "", ""}, {"", "a", ""}, {"", "aa", "a\x01"},
	} {
		up, down := "", ""
		for k, v := range walk.Range(g.x, []byte(c.lo), []byte(c.hi)) {
			up += string(k) + string(v)
		}
		for k, v := range walk.Back(g.x, []byte(c.lo), []byte(c.hi)) {
			down = string(k) + string(v) + down
		}
		if up != c.want || down != c.want {
			t.Errorf("%q to %q: %q, backward %q; not %q", c.lo, c.hi, up, down, c.want)
		}
	}
	for range walk.Range(tree.Empty(), nil, nil) {
		t.Error("Range of the empty tree gives a pair")
	}
	for range walk.Back(tree.Empty(), nil, nil) {
		t.Error("Back of the empty tree gives a pair")
	}
}

func TestP11_1Range(t *testing.T) {
	t.Parallel()
	spans(t, func(g grove, lo, hi string) {
		name := fmt.Sprintf("%s: Range of %.20q and %.20q", g.name, lo, hi)
		wantPairs(t, name, gone(walk.Range(g.x, []byte(lo), []byte(hi))), g.p.within(lo, hi))
	})
}

func TestP11_1Back(t *testing.T) {
	t.Parallel()
	spans(t, func(g grove, lo, hi string) {
		name := fmt.Sprintf("%s: Back of %.20q and %.20q", g.name, lo, hi)
		wantPairs(t, name, gone(walk.Back(g.x, []byte(lo), []byte(hi))), g.p.within(lo, hi).falling())
	})
}

// nil and the empty list are the same.
func TestP11_1NoBytes(t *testing.T) {
	t.Parallel()
	for _, g := range groves(t) {
		for _, lo := range [][]byte{nil, {}, make([]byte, 0, 9)} {
			for _, hi := range [][]byte{nil, {}, make([]byte, 0, 9)} {
				wantPairs(t, g.name+": Range", gone(walk.Range(g.x, lo, hi)), g.p)
				wantPairs(t, g.name+": Back", gone(walk.Back(g.x, lo, hi)), g.p.falling())
			}
		}
	}
}

// way is one of the two ways to go over a grove, and what it should give.
type way struct {
	name string
	seq  iter.Seq2[[]byte, []byte]
	want plain
}

// ways are some sequences of a grove.
func ways(g grove) []way {
	lo, hi := "", ""
	if n := len(g.p); n > 3 {
		lo, hi = g.p[n/5].key+"\x00", g.p[n-n/5-1].key
	}
	p := g.p.within(lo, hi)
	return []way{
		{g.name + ": Range of all", walk.Range(g.x, nil, nil), g.p},
		{g.name + ": Back of all", walk.Back(g.x, nil, nil), g.p.falling()},
		{g.name + ": Range of some", walk.Range(g.x, []byte(lo), []byte(hi)), p},
		{g.name + ": Back of some", walk.Back(g.x, []byte(lo), []byte(hi)), p.falling()},
	}
}

// A sequence may be gone over again, also behind one that stopped at any place.
func TestP11_2AnyNumberOfTimes(t *testing.T) {
	t.Parallel()
	for _, g := range groves(t) {
		for _, w := range ways(g) {
			for round := range 3 {
				wantPairs(t, fmt.Sprintf("%s, round %d", w.name, round), gone(w.seq), w.want)
			}
			for stop := 0; stop < len(w.want); stop += 1 + len(w.want)/7 {
				var l plain
				for k, v := range w.seq {
					l = append(l, pair{string(k), string(v)})
					if len(l) > stop {
						break
					}
				}
				wantPairs(t, fmt.Sprintf("%s, up to the pair %d", w.name, stop), l, w.want[:stop+1])
			}
			wantPairs(t, w.name+", behind all stops", gone(w.seq), w.want)
		}
	}
}

// While a sequence is being gone over it is gone over from within, and both give all.
func TestP11_2WhileItIsBeingGoneOver(t *testing.T) {
	t.Parallel()
	for _, g := range groves(t) {
		for _, w := range ways(g) {
			var outer plain
			for k, v := range w.seq {
				outer = append(outer, pair{string(k), string(v)})
				if at := len(outer); at%(1+len(w.want)/5) == 0 {
					wantPairs(t, w.name+", from within", gone(w.seq), w.want)
					for range w.seq {
						break
					}
				}
			}
			wantPairs(t, w.name+", with others within", outer, w.want)
		}
	}
}

// Two that go over one sequence by turns don't see one another.
func TestP11_2ByTurns(t *testing.T) {
	for _, w := range ways(four(t)) {
		a, stopA := iter.Pull2(w.seq)
		b, stopB := iter.Pull2(w.seq)
		var l, m plain
		for range len(w.want) + 1 {
			if k, v, ok := a(); ok {
				l = append(l, pair{string(k), string(v)})
			}
			if k, v, ok := b(); ok && len(m) < 2 {
				m = append(m, pair{string(k), string(v)})
			}
		}
		stopA()
		stopB()
		wantPairs(t, w.name+", the first", l, w.want)
		wantPairs(t, w.name+", the second", m, w.want[:2])
	}
}

// Many go over one sequence at the same time.
func TestP11_2ManyAtOnce(t *testing.T) {
	t.Parallel()
	for _, g := range groves(t) {
		for _, w := range ways(g) {
			var group sync.WaitGroup
			for range 4 {
				group.Go(func() { wantPairs(t, w.name+", one of many", gone(w.seq), w.want) })
			}
			group.Wait()
		}
	}
}

// Behind a stop nothing is given any more.
func TestP11_2EndsAtOnce(t *testing.T) {
	t.Parallel()
	for _, g := range groves(t) {
		for _, w := range ways(g) {
			for stop := 1; stop <= len(w.want); stop += 1 + len(w.want)/7 {
				given := 0
				w.seq(func(k, v []byte) bool {
					given++
					return given < stop
				})
				if given != stop {
					t.Errorf("%s: %d pairs given, not %d", w.name, given, stop)
				}
			}
		}
	}
}

// A sequence is one of its tree, whatever is made of the tree behind it.
func TestP11_2OfItsTree(t *testing.T) {
	g := four(t)
	up, down := walk.Range(g.x, nil, nil), walk.Back(g.x, nil, nil)
	y := with(t, with(t, g.x, "bb", "new"), "c", "other")
	for range up {
		y, _ = y.Without([]byte("a"))
	}
	wantPairs(t, "Range", gone(up), g.p)
	wantPairs(t, "Back", gone(down), g.p.falling())
	wantPairs(t, "Range of the other one", gone(walk.Range(y, nil, nil)), plain{{"b", "\x02"}, {"bb", "new"}, {"c", "other"}, {"d", "\x04"}})
}

func TestP11_3Examples(t *testing.T) {
	g := four(t)
	for _, c := range []struct {
		lo    string
		limit int
		want  plain
	}{
		{"", 2, g.p[:2]}, {"b", 9, g.p[1:]}, {"", 0, nil}, {"", -1, nil}, {"", 4, g.p}, {"", 5, g.p}, {"c", 1, g.p[2:3]}, {"z", 9, nil}, {"", math.MinInt, nil}, {"", math.MaxInt, g.p},
	} {
		wantPairs(t, fmt.Sprintf("Take from %q on, at most %d", c.lo, c.limit), plainOf(walk.Take(g.x, []byte(c.lo), nil, c.limit)), c.want)
	}
	if l := walk.Take(tree.Empty(), nil, nil, 9); len(l) != 0 {
		t.Errorf("Take of the empty tree: %s", plainOf(l).tell())
	}
}

func TestP11_3Take(t *testing.T) {
	t.Parallel()
	spans(t, func(g grove, lo, hi string) {
		p := g.p.within(lo, hi)
		for _, limit := range []int{-1, 0, 1, len(p) - 1, len(p), len(p) + 1} {
			name := fmt.Sprintf("%s: Take of %.20q and %.20q, at most %d", g.name, lo, hi, limit)
			wantPairs(t, name, plainOf(walk.Take(g.x, []byte(lo), []byte(hi), limit)), p[:min(max(limit, 0), len(p))])
		}
	})
}

// P11.8: Back gives just what Range gives, the other way round.
func TestP11_8BothWays(t *testing.T) {
	t.Parallel()
	spans(t, func(g grove, lo, hi string) {
		up, down := gone(walk.Range(g.x, []byte(lo), []byte(hi))), gone(walk.Back(g.x, []byte(lo), []byte(hi)))
		wantPairs(t, fmt.Sprintf("%s: %.20q and %.20q", g.name, lo, hi), down, up.falling())
	})
}

// P11.8: a range is what two ranges give, one up to a string within it, and one from there on.
func TestP11_8TwoRanges(t *testing.T) {
	t.Parallel()
	tried := 0
	for i, g := range groves(t) {
		l := bounds(g, 30)
		next := noise(uint64(800 + i))
		for range 150 {
			lo, m, hi := l[next(len(l))], l[next(len(l))], l[next(len(l))]
			if m <= lo || hi != "" && m >= hi {
				continue
			}
			tried++
			two := append(gone(walk.Range(g.x, []byte(lo), []byte(m))), gone(walk.Range(g.x, []byte(m), []byte(hi)))...)
			wantPairs(t, fmt.Sprintf("%s: %.20q, %.20q and %.20q", g.name, lo, m, hi), two, gone(walk.Range(g.x, []byte(lo), []byte(hi))))
		}
	}
	if tried < 300 {
		t.Errorf("only %d ranges", tried)
	}
}

// A tree of the greatest values and keys there are.
func TestP11_1GreatPairs(t *testing.T) {
	var l []pair
	for _, c := range "dbca" {
		l = append(l, pair{strings.Repeat(string(c), 255), strings.Repeat(string(c), 262144)})
	}
	g := planted(t, "great", l...)
	wantPairs(t, "Range", gone(walk.Range(g.x, []byte("b"), []byte("d"))), g.p[1:3])
	wantPairs(t, "Back", gone(walk.Back(g.x, []byte("b"), nil)), g.p[1:].falling())
}
