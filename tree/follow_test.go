package tree_test

import (
	"bytes"
	"fmt"
	"slices"
	"sort"
	"strings"
	"testing"

	"coppice/api"
	"coppice/tree"
)

// turn is one change: of a tree in which nothing is new.
type turn struct {
	name          string
	key           string
	before, after *tree.Tree
}

// follow goes through every wood, through hedges, and through the growing of a tall tree; it hands over some changes of each, the more the greater share is. Ahead of each one all is numbered.
func follow(t *testing.T, share int, each func(t *testing.T, c turn)) {
	t.Helper()
	run := func(name string, x *tree.Tree, steps []step, every int) {
		t.Run(name, func(t *testing.T) {
			t.Parallel()
			no := 2
			for _, n := range x.Numbers() {
				no = max(no, n+1)
			}
			play(t, steps, x, func(i int, s step, before, after *tree.Tree) *tree.Tree {
				if i%every == 0 || after.Len() < 30 {
					if before.Fresh() > 0 {
						t.Fatal("the tree ahead has new nodes")
					}
					each(t, turn{fmt.Sprintf("step %d", i), s.key, before, after})
				}
				if i%every == every-1 || after.Len() < 31 {
					fresh := after.Fresh()
					after = numbered(t, after, no)
					no += fresh
				}
				return after
			})
		})
	}
	for k, w := range woods() {
		next := noise(uint64(1200 + k))
		run(w.name, tree.Empty(), w.steps(next, k%4), 1+w.pairs/share)
	}
	next := noise(1299)
	for i := range 24 {
		x := built(t, hedgeOf(next, 1+i%3))
		run(fmt.Sprint("hedge ", i), x, hedgeSteps(next, x.Len(), min(3*x.Len(), 200)), 1+x.Len()/share)
	}
	var l []step
	for range 4000 {
		l = append(l, step{key: longKey(next(250), next(30)), value: strings.Repeat("v", 400+next(113))})
	}
	run("tall", tree.Empty(), l, 1+len(l)/share)
}

// Whatever is made of a sound tree is sound; the plain judge says so, and Build takes it.
func TestP10_12Sound(t *testing.T) {
	follow(t, 50, func(t *testing.T, c turn) {
		for _, x := range []*tree.Tree{c.before, c.after} {
			l := x.Nodes()
			if why := unsound(l); why != "" {
				t.Fatalf("%s: %s\n%s", c.name, why, tell(l))
			}
			if _, err := tree.Build(l); err != api.OK {
				t.Fatalf("%s: Build: %d", c.name, err)
			}
		}
	})
	if why := unsound(tree.Empty().Nodes()); why != "" {
		t.Errorf("Empty: %s", why)
	}
}

// A cut exists where one is asked: into leaves that are as full as can be, and of all shapes, goes one pair more, or a greater one.
func TestP10_12ACutExists(t *testing.T) {
	cuts := 0
	for k, w := range woods() {
		next := noise(uint64(120 + k))
		for range 6 {
			// Pairs come as long as they all stay in one leaf.
			x := tree.Empty()
			for range 1500 {
				y := with(t, x, w.key(next), w.value(next))
				if y.Height() == 1 {
					x = y
				} else if next(20) == 0 {
					break
				}
			}
			keys := []string{"\x00", "\xff", strings.Repeat("\x00", 255), strings.Repeat("\xff", 255), w.key(next), w.key(next)}
			for i, p := range plainFrom(x.Nodes(), nil).pairs() {
				if i%5 == 0 {
					keys = append(keys, p.key, p.key[:1], (p.key + strings.Repeat("\x00", 255))[:255], (p.key + strings.Repeat("\xff", 255))[:255])
				}
			}
			for _, key := range keys {
				for _, size := range []int{0, 512, 513} {
					y := with(t, x, key, strings.Repeat("w", size))
					if y.Height() < 2 {
						continue
					}
					cuts++
					if why := unsound(y.Nodes()); why != "" {
						t.Fatalf("%s: With(%.20q, %d bytes): %s", w.name, key, size, why)
					}
				}
			}
		}
	}
	if cuts < 1000 {
		t.Errorf("only %d cuts", cuts)
	}
}

// Beside a plain map: Get, Len, and the pairs of the leaves from the first to the last one.
func TestP10_13AMap(t *testing.T) {
	for k, w := range woods() {
		t.Run(w.name, func(t *testing.T) {
			t.Parallel()
			next := noise(uint64(1300 + k))
			has := map[string]string{}
			every := 1 + w.pairs/20
			play(t, w.steps(next, (k+1)%4), tree.Empty(), func(i int, s step, before, after *tree.Tree) *tree.Tree {
				_, had := has[s.key]
				if s.gone {
					if _, told := before.Without([]byte(s.key)); told != had {
						t.Fatalf("step %d: Without tells %v", i, told)
					}
					delete(has, s.key)
				} else {
					has[s.key] = s.value
				}
				if after.Len() != len(has) {
					t.Fatalf("step %d: %d pairs, not %d", i, after.Len(), len(has))
				}
				value, is := has[s.key]
				wantGet(t, after, s.key, value, is)
				other := w.key(next)
				value, is = has[other]
				wantGet(t, after, other, value, is)
				if i%every == 0 {
					wantMap(t, fmt.Sprintf("step %d", i), after, has)
				}
				return after
			})
		})
	}
}

// wantMap asks that the pairs of a tree are those of a map, by rising keys.
func wantMap(t *testing.T, name string, x *tree.Tree, has map[string]string) {
	t.Helper()
	keys := names(has)
	sort.Strings(keys)
	i := 0
	for _, n := range x.Nodes() {
		for _, p := range n.Pairs {
			if i >= len(keys) || string(p.Key) != keys[i] || string(p.Value) != has[keys[i]] {
				t.Fatalf("%s: the pair %d is %.20q = %d bytes", name, i, p.Key, len(p.Value))
			}
			i++
		}
	}
	if i != len(keys) {
		t.Errorf("%s: %d pairs, not %d", name, i, len(keys))
	}
}

// Every version stays readable as it was, whatever was made of it.
func TestP10_14VersionsStay(t *testing.T) {
	for k, w := range woods() {
		var versions []*tree.Tree
		var told [][]api.Node
		next := noise(uint64(1400 + k))
		play(t, w.steps(next, k%4), tree.Empty(), func(i int, s step, before, after *tree.Tree) *tree.Tree {
			if i%(1+w.pairs/8) == 0 {
				if next(2) == 0 {
					if y, err := after.Numbered(freeNumbers(after)); err == api.OK {
						after = y
					}
				}
				versions, told = append(versions, after), append(told, after.Nodes())
			}
			return after
		})
		for i, x := range versions {
			wantNodes(t, fmt.Sprintf("%s, version %d", w.name, i), x, told[i])
		}
		if len(versions) < 10 {
			t.Errorf("%s: only %d versions", w.name, len(versions))
		}
	}
}

// A full branch is cut; then so much is taken out below its second part that the first one, which has stayed as it was, is joined with it: each tree on the way stays.
func TestP10_14CutAndJoinedAgain(t *testing.T) {
	l := edgeTree(longs(15, 63), 17)
	x := built(t, l)
	for i := range 4 {
		x = with(t, x, string([]byte{byte(3 * 20), byte(i)})+strings.Repeat("w", 253), v500)
	}
	if x.Height() != 3 {
		t.Fatalf("the root was not cut: height %d", x.Height())
	}
	versions, told := []*tree.Tree{x}, [][]api.Node{x.Nodes()}
	root := told[0][len(told[0])-1]
	for _, n := range told[0][root.Kids[0]+1 : root.Kids[1]] {
		for _, p := range n.Pairs {
			if x.Height() == 3 {
				x = without(t, x, string(p.Key))
				versions, told = append(versions, x), append(told, x.Nodes())
			}
		}
	}
	if x.Height() != 2 {
		t.Errorf("the parts were not joined: height %d", x.Height())
	}
	for range 2 {
		for i, x := range versions {
			wantNodes(t, fmt.Sprintf("version %d", i), x, told[i])
			with(t, x, "new", "pair")
		}
	}
}

// way tells which of the nodes lie on the way to a key.
func way(l []api.Node, key string) map[int]bool {
	on := map[int]bool{}
	for at := len(l) - 1; at >= 0; {
		on[at] = true
		n := l[at]
		if n.Level == 0 {
			break
		}
		k := 0
		for k < len(n.Seps) && string(n.Seps[k]) <= key {
			k++
		}
		at = n.Kids[k]
	}
	return on
}

// hasRun tells whether one list stands within another, side by side.
func hasRun(part, whole [][]byte) bool {
	for i := 0; i+len(part) <= len(whole); i++ {
		if slices.EqualFunc(part, whole[i:i+len(part)], bytes.Equal) {
			return true
		}
	}
	return false
}

// keysOf are the keys of a leaf, or the separators of a branch.
func keysOf(n api.Node) [][]byte {
	l := slices.Clone(n.Seps)
	for _, p := range n.Pairs {
		l = append(l, p.Key)
	}
	return l
}

// A node off the way stands in the new tree as it was, with its number; or it was joined: then what it had stands side by side in a new one.
func TestP10_14Sharing(t *testing.T) {
	follow(t, 50, func(t *testing.T, c turn) {
		if c.after == c.before {
			return
		}
		l := c.before.Nodes()
		on := way(l, c.key)
		byNo := map[int]api.Node{}
		var news []api.Node
		for _, n := range c.after.Nodes() {
			if n.No == 0 {
				news = append(news, n)
			} else {
				n.Kids = nil
				byNo[n.No] = n
			}
		}
		for i, n := range l {
			stays, is := byNo[n.No]
			n.Kids = nil
			delete(byNo, n.No)
			switch {
			case on[i] && is:
				t.Errorf("%s: the node at %d lies on the way, and is as it was", c.name, i)
			case is && !equalNode(stays, n):
				t.Errorf("%s: the node at %d is another one under its number", c.name, i)
			case !on[i] && !is && !slices.ContainsFunc(news, func(m api.Node) bool { return m.Level == n.Level && hasRun(keysOf(n), keysOf(m)) }):
				t.Errorf("%s: the node at %d is gone, and was not joined", c.name, i)
			}
		}
		if len(byNo) > 0 {
			t.Errorf("%s: %d numbers have come from nowhere", c.name, len(byNo))
		}
	})
}

// wantLow asks for the least number of leaves, and of kids of neighbours; it tells the height.
func wantLow(t *testing.T, name string, x *tree.Tree) int {
	t.Helper()
	l := x.Nodes()
	leaves := 0
	for _, n := range l {
		if n.Level == 0 {
			leaves++
		}
		for i := 1; i < len(n.Kids); i++ {
			if a, b := l[n.Kids[i-1]], l[n.Kids[i]]; a.Level > 0 && len(a.Kids)+len(b.Kids) < 13 {
				t.Errorf("%s: neighbours of %d and %d kids", name, len(a.Kids), len(b.Kids))
			}
		}
	}
	least := 7
	for range x.Height() - 3 {
		least *= 3
	}
	if x.Height() > 2 && leaves < least {
		t.Errorf("%s: height %d, and %d leaves", name, x.Height(), leaves)
	}
	return x.Height()
}

func TestP10_15Low(t *testing.T) {
	all := &counter{seen: map[string]int{}}
	t.Run("all", func(t *testing.T) {
		follow(t, 50, func(t *testing.T, c turn) {
			all.add(map[string]int{fmt.Sprint("height ", wantLow(t, c.name, c.after)): 1})
		})
	})
	all.want(t, map[string]int{"height 0": 5, "height 1": 100, "height 2": 100, "height 3": 100, "height 4": 20})
	if h := wantLow(t, "the tallest hedge", built(t, hedgeOf(noise(16), 4))); h != 5 {
		t.Errorf("the tallest hedge has the height %d", h)
	}
}

// Of height 3 no tree has fewer than 13 leaves: separators of 255 bytes that begin unlike are the greatest there are.
func TestP10_15TheThinnest(t *testing.T) {
	for at := 1; at <= 12; at++ {
		wantTree(t, "13 leaves", edgeTree(longs(12, 255), at, 13-at))
		if at < 12 {
			wantNoTree(t, "12 leaves", edgeTree(longs(12, 255), at, 12-at))
		}
	}
}

func TestP10_16Few(t *testing.T) {
	all := &counter{seen: map[string]int{}}
	t.Run("all", func(t *testing.T) {
		follow(t, 150, func(t *testing.T, c turn) {
			news, h := 0, c.before.Height()
			for _, n := range c.after.Nodes() {
				if n.No == 0 {
					news++
				}
			}
			if most := h*h + h + 1; news > most {
				t.Errorf("%s: %d nodes are new, of a tree of height %d", c.name, news, h)
			}
			if c.after == c.before && news > 0 {
				t.Errorf("%s: nothing changes, and %d nodes are new", c.name, news)
			}
			if news > h {
				all.add(map[string]int{"more than the way": 1})
			}
		})
	})
	all.want(t, map[string]int{"more than the way": 100})
}
