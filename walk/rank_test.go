package walk_test

import (
	"fmt"
	"math"
	"testing"

	"coppice/api"
	"coppice/tree"
	"coppice/walk"
)

func TestP11_4Examples(t *testing.T) {
	g := four(t)
	for key, want := range map[string]int{"": 0, "a": 0, "b": 1, "bb": 2, "z": 4, "d": 3, "d\x00": 4, "\x00": 0} {
		if n := walk.Rank(g.x, []byte(key)); n != want {
			t.Errorf("Rank(%q): %d, not %d", key, n, want)
		}
		if n := walk.Rank(tree.Empty(), []byte(key)); n != 0 {
			t.Errorf("Rank(%q) in the empty tree: %d", key, n)
		}
	}
	for _, c := range []struct {
		lo, hi string
		want   int
	}{{"", "", 4}, {"b", "d", 2}, {"d", "b", 0}, {"b", "b", 0}, {"", "b", 1}, {"c", "", 2}, {"z", "", 0}} {
		if n := walk.Count(g.x, []byte(c.lo), []byte(c.hi)); n != c.want {
			t.Errorf("Count(%q, %q): %d, not %d", c.lo, c.hi, n, c.want)
		}
		if n := walk.Count(tree.Empty(), []byte(c.lo), []byte(c.hi)); n != 0 {
			t.Errorf("Count(%q, %q) in the empty tree: %d", c.lo, c.hi, n)
		}
	}
}

func TestP11_4Rank(t *testing.T) {
	t.Parallel()
	for _, g := range groves(t) {
		for _, key := range bounds(g, 30) {
			if n := walk.Rank(g.x, []byte(key)); n != g.p.rank(key) {
				t.Errorf("%s: Rank(%.20q): %d, not %d", g.name, key, n, g.p.rank(key))
			}
		}
	}
}

func TestP11_4Count(t *testing.T) {
	t.Parallel()
	spans(t, func(g grove, lo, hi string) {
		if n, want := walk.Count(g.x, []byte(lo), []byte(hi)), len(g.p.within(lo, hi)); n != want {
			t.Errorf("%s: Count(%.20q, %.20q): %d, not %d", g.name, lo, hi, n, want)
		}
	})
}

func TestP11_5Examples(t *testing.T) {
	g := four(t)
	for _, i := range []int{0, 3} {
		p, err := walk.Nth(g.x, i)
		wantPair(t, fmt.Sprintf("Nth(%d)", i), p, err == api.OK, g.p[i], true)
	}
	wantNoNth(t, "four", g.x, 4)
	wantNoNth(t, "four", g.x, -1)
	wantNoNth(t, "the empty tree", tree.Empty(), 0)
}

// wantNoNth asks that there is no pair with that number.
func wantNoNth(t *testing.T, name string, x *tree.Tree, i int) {
	t.Helper()
	p, err := walk.Nth(x, i)
	if err != api.ErrIndex || len(p.Key) > 0 || len(p.Value) > 0 {
		t.Errorf("%s: Nth(%d): %.20q, %d", name, i, p.Key, err)
	}
}

func TestP11_5Nth(t *testing.T) {
	t.Parallel()
	for _, g := range groves(t) {
		for i, want := range g.p {
			p, err := walk.Nth(g.x, i)
			wantPair(t, fmt.Sprintf("%s: Nth(%d)", g.name, i), p, err == api.OK, want, true)
		}
		n := len(g.p)
		for _, i := range []int{-1, -n, -n - 1, n, n + 1, math.MinInt, math.MaxInt, 1 << 32, -1 << 32} {
			if i != 0 || n == 0 {
				wantNoNth(t, g.name, g.x, i)
			}
		}
	}
}

func TestP11_6Examples(t *testing.T) {
	g := four(t)
	for _, c := range []struct {
		key        string
		from, upTo int // places in the tree, -1: none
	}{{"b", 1, 1}, {"bb", 2, 1}, {"dd", -1, 3}, {"", 0, -1}, {"a", 0, 0}, {"d", 3, 3}, {"\x00", 0, -1}} {
		var from, upTo pair
		if c.from >= 0 {
			from = g.p[c.from]
		}
		if c.upTo >= 0 {
			upTo = g.p[c.upTo]
		}
		p, is := walk.From(g.x, []byte(c.key))
		wantPair(t, fmt.Sprintf("From(%q)", c.key), p, is, from, c.from >= 0)
		p, is = walk.UpTo(g.x, []byte(c.key))
		wantPair(t, fmt.Sprintf("UpTo(%q)", c.key), p, is, upTo, c.upTo >= 0)
		p, is = walk.From(tree.Empty(), []byte(c.key))
		wantPair(t, fmt.Sprintf("From(%q) of the empty tree", c.key), p, is, pair{}, false)
		p, is = walk.UpTo(tree.Empty(), []byte(c.key))
		wantPair(t, fmt.Sprintf("UpTo(%q) of the empty tree", c.key), p, is, pair{}, false)
	}
}

func TestP11_6FromAndUpTo(t *testing.T) {
	t.Parallel()
	for _, g := range groves(t) {
		for _, key := range bounds(g, 30) {
			p, is := walk.From(g.x, []byte(key))
			want, wantIs := g.p.from(key)
			wantPair(t, fmt.Sprintf("%s: From(%.20q)", g.name, key), p, is, want, wantIs)
			p, is = walk.UpTo(g.x, []byte(key))
			want, wantIs = g.p.upTo(key)
			wantPair(t, fmt.Sprintf("%s: UpTo(%.20q)", g.name, key), p, is, want, wantIs)
		}
	}
}

// P11.9: ranks rise with the keys, and are at most the number of pairs; what lies within two strings is counted by their ranks.
func TestP11_9RanksAndCounts(t *testing.T) {
	t.Parallel()
	for _, g := range groves(t) {
		last := 0
		for _, key := range bounds(g, 30) {
			n := walk.Rank(g.x, []byte(key))
			if n < last || n > g.x.Len() {
				t.Errorf("%s: Rank(%.20q): %d behind %d, of %d pairs", g.name, key, n, last, g.x.Len())
			}
			last = n
		}
	}
	spans(t, func(g grove, lo, hi string) {
		want := 0
		switch {
		case hi == "":
			want = g.x.Len() - walk.Rank(g.x, []byte(lo))
		case hi >= lo:
			want = walk.Rank(g.x, []byte(hi)) - walk.Rank(g.x, []byte(lo))
		}
		if n := walk.Count(g.x, []byte(lo), []byte(hi)); n != want {
			t.Errorf("%s: Count(%.20q, %.20q): %d, not %d by ranks", g.name, lo, hi, n, want)
		}
	})
}

// P11.9: there and back between keys and ranks.
func TestP11_9ThereAndBack(t *testing.T) {
	t.Parallel()
	for _, g := range groves(t) {
		for i := range g.x.Len() {
			p, err := walk.Nth(g.x, i)
			if n := walk.Rank(g.x, p.Key); err != api.OK || n != i {
				t.Errorf("%s: Nth(%d) has the rank %d", g.name, i, n)
			}
		}
		for _, q := range g.p {
			p, err := walk.Nth(g.x, walk.Rank(g.x, []byte(q.key)))
			wantPair(t, g.name+": Nth of a key's rank", p, err == api.OK, q, true)
		}
	}
}

// P11.10: From and UpTo of a key that is there are its pair; of one that is not, nothing stands between them; From is Nth of the rank.
func TestP11_10Beside(t *testing.T) {
	t.Parallel()
	for _, g := range groves(t) {
		for _, key := range bounds(g, 30) {
			name := fmt.Sprintf("%s: %.20q", g.name, key)
			from, isFrom := walk.From(g.x, []byte(key))
			upTo, isUpTo := walk.UpTo(g.x, []byte(key))
			nth, err := walk.Nth(g.x, walk.Rank(g.x, []byte(key)))
			wantPair(t, name+", From by its rank", from, isFrom, pair{string(nth.Key), string(nth.Value)}, err == api.OK)
			if value, has := g.x.Get([]byte(key)); has {
				wantPair(t, name+", From", from, isFrom, pair{key, string(value)}, true)
				wantPair(t, name+", UpTo", upTo, isUpTo, pair{key, string(value)}, true)
				continue
			}
			for _, q := range g.p {
				if (!isUpTo || q.key > string(upTo.Key)) && (!isFrom || q.key < string(from.Key)) {
					t.Errorf("%s: %.20q stands between %.20q and %.20q", name, q.key, upTo.Key, from.Key)
				}
			}
		}
	}
}
