package look_test

import (
	"fmt"
	"math"
	"slices"
	"strings"
	"sync"
	"testing"

	"coppice/api"
	"coppice/cache"
	"coppice/chain"
	"coppice/look"
	"coppice/tree"
	"coppice/walk"
)

// TestP14_8SmallFiles: every file of three pages out of a few, as trees of all heights that they may be.
func TestP14_8SmallFiles(t *testing.T) {
	choices := []api.Page{
		{}, lettersOf("a"), lettersOf("b"), lettersOf("ac"), lettersOf("bd"), leafOf(short("b", ""), chained("c", 513, 3)), dataOf(0, 513),
		branchOf(1, "", 2), counted(branchOf(1, "b", 2, 3), 2, 1), branchOf(1, "b", 3, 2), branchOf(1, "b", 3, 3), branchOf(1, "bc", 2, 3, 2),
		branchOf(2, "", 4), branchOf(2, "b", 3, 3), counted(branchOf(2, "c", 3, 4), 2, 2), branchOf(2, "b", 2, 3),
	}
	for i, root := range choices {
		t.Run(fmt.Sprint(i), func(t *testing.T) {
			t.Parallel()
			for _, two := range choices {
				for _, three := range choices {
					height := root.Level + 1
					b := newBench(t, file(two, three, root), 3, 4, height)
					b.askAll("b")
					if height > 1 {
						b.turnTo(3, height-1)
						b.askAll("c")
					}
				}
			}
		})
	}
}

// askAll asks a few of each kind of question.
func (b *bench) askAll(key string) {
	b.t.Helper()
	b.get(key)
	b.scan("", "", 9)
	b.scan(key, "d", 2)
	b.rank(key)
	b.nth(0)
	b.nth(2)
	c, _ := b.seek(key)
	if c == nil {
		return
	}
	for _, move := range "nnnnpppppnn" {
		if move == 'n' {
			c.next()
		} else {
			c.prev()
		}
		c.pair()
	}
}

// TestP14_8Shared: each branch has one page below it as all its kids: 2^15 ways lead to the one leaf. Every call ends soon, and no leaf is gone through twice.
func TestP14_8Shared(t *testing.T) {
	pages := []api.Page{lettersOf("mn")}
	for level := 1; level <= api.MaxLevel; level++ {
		pages = append(pages, counted(branchOf(level, "m", 1+level, 1+level), 1<<level, 1<<level))
	}
	b := newBench(t, file(pages...), 1, 1+len(pages), api.MaxLevel+1)
	if v, is, err := b.get("m"); string(v) != "m" || !is || err != api.OK {
		t.Errorf("Get: %q, %v, %d", v, is, err)
	}
	if l, err := b.scan("", "", 99); l != nil || err != api.ErrLost {
		t.Errorf("Scan: %s, %d", tellPairs(l), err)
	}
	if l, err := b.scan("", "", 2); len(l) != 2 || err != api.OK {
		t.Errorf("Scan of the leaf: %s, %d", tellPairs(l), err)
	}
	if n, err := b.rank("n"); n != 1<<16-1 || err != api.OK {
		t.Errorf("Rank: %d, %d", n, err)
	}
	if p, err := b.nth(1<<15 + 1); string(p.Key) != "n" || err != api.OK {
		t.Errorf("Nth: %s, %d", tellPair(p), err)
	}
	c, _ := b.seek("a")
	c.next()
	if is, err := c.next(); is || err != api.ErrLost {
		t.Errorf("Next: %v, %d", is, err)
	}
	c, _ = b.seek("m")
	if is, err := c.prev(); is || err != api.ErrLost {
		t.Errorf("Prev: %v, %d", is, err)
	}
}

// TestP14_8Rounds: branches that are their own kids, or one another's.
func TestP14_8Rounds(t *testing.T) {
	for _, pages := range [][]api.Page{
		{branchOf(1, "m", 2, 2)}, {branchOf(2, "m", 2, 3), branchOf(1, "m", 2, 2)}, {branchOf(2, "m", 3, 3), branchOf(2, "m", 2, 2)}, {branchOf(1, "m", 3, 2), lettersOf("a")},
	} {
		b := newBench(t, file(pages...), 1, 2, 1+pages[0].Level)
		for _, key := range []string{"a", "m"} {
			b.get(key)
			b.rank(key)
			b.scan(key, "", 99)
			if c, _ := b.seek(key); c != nil {
				c.next()
				c.prev()
			}
		}
		b.nth(0)
		b.nth(1)
		if l, err := b.scan("", "", 99); err != api.ErrLevel {
			t.Errorf("Scan: %s, %d", tellPairs(l), err)
		}
	}
}

// TestP14_8Highest: a tree as high as one may be, each of its levels once as the lowest branch that has a next kid.
func TestP14_8Highest(t *testing.T) {
	for at := 1; at <= api.MaxLevel; at++ {
		most := slices.Repeat([]int{1}, api.MaxLevel)
		most[at-1] = 3
		w := planted(noise(uint64(at)), api.MaxLevel+1, few(), most...)
		b := newBench(t, w.image(), 1, w.root, w.height)
		for i, q := range w.pairs {
			if p, err := b.nth(i); !samePair(p, q) || err != api.OK {
				t.Fatalf("Nth(%d): %s, %d", i, tellPair(p), err)
			}
			b.get(string(q.Key))
			b.rank(string(q.Key))
		}
		b.play(noise(uint64(100+at)), w.asking(), 60)
		if l, err := b.scan("", "", math.MaxInt); !slices.EqualFunc(l, w.pairs, samePair) || err != api.OK {
			t.Fatalf("Scan: %d pairs, %d", len(l), err)
		}
	}
}

// felled is a tree of package tree, which is sound, as pages.
func felled(x *tree.Tree) *wood {
	w := &wood{pages: make([]api.Page, 2), height: x.Height()}
	nodes := x.Nodes()
	nos, counts := make([]int, len(nodes)), make([]int, len(nodes))
	for i, n := range nodes {
		p := api.Page{Kind: api.Leaf}
		for _, q := range n.Pairs {
			p.Items = append(p.Items, w.item(string(q.Key), q.Value))
		}
		counts[i] = len(n.Pairs)
		if n.Level > 0 {
			p = api.Page{Kind: api.Branch, Level: n.Level, Seps: n.Seps}
			for _, k := range n.Kids {
				p.Kids = append(p.Kids, api.Kid{No: nos[k], Keys: counts[k]})
				counts[i] += counts[k]
			}
		}
		nos[i] = w.lay(p)
		w.root = nos[i]
	}
	return w
}

// grove is a sound tree, and the same as pages.
type grove struct {
	name string
	x    *tree.Tree
	w    *wood
}

// kind is a kind of keys and values of which trees are grown.
type kind struct {
	name  string
	pairs int
	key   func(next func(int) int) string
	sizes []int
}

// kinds: with few leaves and with many, with short separators and with long ones, so that the trees are of all heights; with chains and without.
func kinds() []kind {
	letters := func(next func(int) int, n int, of string) string {
		b := make([]byte, n)
		for i := range b {
			b[i] = of[next(len(of))]
		}
		return string(b)
	}
	clustered := func(next func(int) int) string {
		k := next(110)
		return string([]byte{byte(k * 37), byte(k)}) + strings.Repeat("x", 252) + string(rune('0'+next(30)))
	}
	return []kind{
		{"few", 12, func(next func(int) int) string { return letters(next, 1+next(3), "abc") }, []int{0, 5, 40}},
		{"small", 400, func(next func(int) int) string { return letters(next, 1+next(5), "\x00abcd\xff") }, []int{0, 1, 30, 90}},
		{"high", 2600, clustered, []int{512, 512, 400}},
		{"chains", 80, func(next func(int) int) string { return letters(next, 1+next(60), "ab\x00") }, []int{0, 512, 513, 600, 4085, 4086, 9000}},
		{"mixed", 150, func(next func(int) int) string { return letters(next, 1+next(255), "aab\xff") }, []int{0, 100, 300, 512, 513}},
	}
}

// grown are the groves that groves tells: they never change, so one growing serves all tests.
var grown struct {
	sync.Once
	groves []grove
}

// groves are sound trees of all kinds, grown, and thinned out, so that separators stay whose keys have gone.
func groves(t *testing.T) []grove {
	t.Helper()
	grown.Do(func() {
		grown.groves = []grove{{"empty", tree.Empty(), felled(tree.Empty())}}
		for i, k := range kinds() {
			next := noise(uint64(i))
			x := tree.Empty()
			for range k.pairs {
				x, _ = x.With([]byte(k.key(next)), grain(k.sizes[next(len(k.sizes))], next(256)))
			}
			grown.groves = append(grown.groves, grove{k.name, x, felled(x)})
			for key := range walk.Range(x, nil, nil) {
				if next(3) > 0 {
					x, _ = x.Without(key)
				}
			}
			grown.groves = append(grown.groves, grove{k.name + ", thinned out", x, felled(x)})
		}
		for _, g := range grown.groves {
			g.w.shuffle(noise(3))
		}
	})
	return grown.groves
}

// eachGrove runs a test of each grove.
func eachGrove(t *testing.T, f func(t *testing.T, g grove)) {
	t.Helper()
	for _, g := range groves(t) {
		t.Run(g.name, func(t *testing.T) {
			t.Parallel()
			f(t, g)
		})
	}
}

// someOf are at most as many of a list, from all over it.
func someOf(l []string, most int) []string {
	var some []string
	for i := 0; i < len(l); i += 1 + (len(l)-1)/most {
		some = append(some, l[i])
	}
	return some
}

// TestGroves: the sound trees of these tests are of all heights up to 4.
func TestGroves(t *testing.T) {
	heights := map[int]int{}
	for _, g := range groves(t) {
		heights[g.w.height]++
		if g.x.Len() != len(g.w.pairs) {
			t.Errorf("%s: %d pairs, not %d", g.name, len(g.w.pairs), g.x.Len())
		}
	}
	for h := range 5 {
		if heights[h] == 0 {
			t.Errorf("no tree of height %d", h)
		}
	}
}

// TestP14_9Map: of a sound tree Get, Scan, Rank and Nth answer what the tree in memory does.
func TestP14_9Map(t *testing.T) {
	eachGrove(t, func(t *testing.T, g grove) {
		b := newBench(t, g.w.image(), 20, g.w.root, g.w.height)
		l := someOf(g.w.asking(), 80)
		next := noise(11)
		for _, key := range l {
			if len(key) > 0 && len(key) <= api.MaxKey {
				want, has := g.x.Get([]byte(key))
				if v, is, err := b.get(key); is != has || tellValue(v) != tellValue(want) || err != api.OK {
					t.Fatalf("Get(%.40q): %s, %v, %d", key, tellValue(v), is, err)
				}
			}
			if n, err := b.rank(key); n != walk.Rank(g.x, []byte(key)) || err != api.OK {
				t.Fatalf("Rank(%.40q): %d, %d", key, n, err)
			}
			for _, hi := range []string{"", key, l[next(len(l))]} {
				limit := []int{1, 2, 7, 30, math.MaxInt}[next(5)]
				want := walk.Take(g.x, []byte(key), []byte(hi), limit)
				if got, err := b.scan(key, hi, limit); !slices.EqualFunc(got, want, samePair) || err != api.OK {
					t.Fatalf("Scan(%.40q, %.40q, %d): %d pairs, %d; not %d pairs", key, hi, limit, len(got), err, len(want))
				}
			}
		}
		for _, i := range append(numbers(-1, 4), len(g.w.pairs)/3, len(g.w.pairs)/2, len(g.w.pairs)-1, len(g.w.pairs), math.MinInt, math.MaxInt) {
			want, wantErr := walk.Nth(g.x, i)
			if p, err := b.nth(i); !samePair(p, want) || err != wantErr {
				t.Fatalf("Nth(%d): %s, %d; not %s, %d", i, tellPair(p), err, tellPair(want), wantErr)
			}
		}
	})
}

// TestP14_9Cursors: a cursor goes over all keys, both ways, and from any one on.
func TestP14_9Cursors(t *testing.T) {
	eachGrove(t, func(t *testing.T, g grove) {
		l := look.New(cache.New(diskOf(t, g.w.image()), 20), g.w.root, g.w.height)
		c, err := l.Seek(nil)
		if err != api.OK {
			t.Fatalf("Seek: %d", err)
		}
		stands := func(c *look.Cursor, i int) {
			t.Helper()
			var want api.Pair
			if i >= 0 && i < len(g.w.pairs) {
				want = g.w.pairs[i]
			}
			if p, is, err := c.Pair(); !samePair(p, want) || is != (want.Key != nil) || err != api.OK {
				t.Fatalf("the cursor stands at %s, %v, %d; not at %s", tellPair(p), is, err, tellPair(want))
			}
		}
		n := len(g.w.pairs)
		for i := range n {
			stands(c, i)
			if is, err := c.Next(); is != (i < n-1) || err != api.OK {
				t.Fatalf("Next: %v, %d", is, err)
			}
		}
		for i := n; i >= 0; i-- {
			stands(c, i)
			if is, err := c.Prev(); is != (i > 0) || err != api.OK {
				t.Fatalf("Prev: %v, %d", is, err)
			}
		}
		stands(c, -1)
		for _, key := range someOf(g.w.asking(), 100) {
			c, err := l.Seek([]byte(key))
			if err != api.OK {
				t.Fatalf("Seek(%.40q): %d", key, err)
			}
			i := walk.Rank(g.x, []byte(key))
			stands(c, i)
			if is, err := c.Prev(); is != (i > 0) || err != api.OK {
				t.Fatalf("Prev: %v, %d", is, err)
			}
			stands(c, i-1)
		}
	})
}

// leaves are the numbers of the leaves of a wood in order, and of each what its lower bound is.
func (w *wood) leaves(no int, low string) (nos []int, lows []string) {
	p := w.pages[no]
	if p.Kind == api.Leaf {
		return []int{no}, []string{low}
	}
	for i, k := range p.Kids {
		if i > 0 {
			low = string(p.Seps[i-1])
		}
		n, l := w.leaves(k.No, low)
		nos, lows = append(nos, n...), append(lows, l...)
	}
	return nos, lows
}

// TestP14_10Scan: of a sound tree each page is read once, and of leaves those alone from the way to lo up to the one in which the Scan ends.
func TestP14_10Scan(t *testing.T) {
	eachGrove(t, func(t *testing.T, g grove) {
		if g.w.height == 0 {
			return
		}
		l, read := fresh(t, g.w.image(), g.w.root, g.w.height)
		nos, lows := g.w.leaves(g.w.root, "")
		asking := someOf(g.w.asking(), 80)
		next := noise(12)
		for _, lo := range asking {
			hi, limit := asking[next(len(asking))], 1+next(40)
			if hi <= lo {
				hi = ""
			}
			from := 0
			for from+1 < len(lows) && lows[from+1] <= lo {
				from++
			}
			to, taken, chains := from, 0, 0
			for ended := false; !ended; {
				for _, it := range g.w.pages[nos[to]].Items {
					switch key := string(it.Key); {
					case ended || key < lo:
					case hi != "" && key >= hi:
						ended = true
					default:
						taken++
						chains += chain.Pages(it.Size)
						ended = taken == limit
					}
				}
				if to == len(nos)-1 {
					break
				}
				if !ended {
					to++
				}
			}
			pairs, err := l.Scan([]byte(lo), []byte(hi), limit)
			if len(pairs) != taken || err != api.OK {
				t.Fatalf("Scan(%.40q, %.40q, %d): %d pairs, %d; not %d", lo, hi, limit, len(pairs), err, taken)
			}
			var leaves []int
			data := 0
			for _, no := range read() { // tells too if one is read twice
				switch g.w.pages[no].Kind {
				case api.Leaf:
					leaves = append(leaves, no)
				case api.Chain:
					data++
				}
			}
			if !slices.Equal(leaves, nos[from:to+1]) || data != chains {
				t.Fatalf("Scan(%.40q, %.40q, %d) reads the leaves %v, not %v, and %d pages of data, not %d", lo, hi, limit, leaves, nos[from:to+1], data, chains)
			}
		}
	})
}
