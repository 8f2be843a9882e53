package bulk_test

import (
	"fmt"
	"slices"
	"strings"
	"testing"

	"coppice/api"
	"coppice/bulk"
)

// shapeIs asks for these numbers of pairs or kids, node by node, post-order, and for the separators of all branches.
func shapeIs(t *testing.T, what string, l []api.Pair, counts []int, seps ...string) {
	t.Helper()
	nodes := isBuilt(t, what, l).Nodes()
	var got []int
	var stand []string
	for _, n := range nodes {
		got = append(got, max(len(n.Pairs), len(n.Kids)))
		for _, s := range n.Seps {
			stand = append(stand, string(s))
		}
	}
	if !slices.Equal(got, counts) || !slices.Equal(stand, seps) {
		t.Errorf("%s: %v with %d separators, not %v with %d", what, got, len(stand), counts, len(seps))
	}
}

// TestP21_1Examples: the chapter's.
func TestP21_1Examples(t *testing.T) {
	shapeIs(t, "none", nil, nil)
	shapeIs(t, "no list", []api.Pair{}, nil)
	shapeIs(t, "one", letters(1, 500), []int{1})
	shapeIs(t, "eight", letters(8, 500), []int{8})
	shapeIs(t, "nine", letters(9, 500), []int{8, 1, 2}, "i")
	shapeIs(t, "sixteen", letters(16, 500), []int{8, 8, 2}, "i")
	shapeIs(t, "seventeen", letters(17, 500), []int{8, 8, 1, 3}, "i", "q")
	refused(t, "b, a", []api.Pair{pair("b", 1), pair("a", 1)}, api.ErrOrder)
	refused(t, "an empty key", []api.Pair{pair("", 1)}, api.ErrSize)
}

// refused asks for an error, and no tree.
func refused(t *testing.T, what string, l []api.Pair, err api.Errno) {
	t.Helper()
	if u, e := bulk.Build(l); e != err || u != nil {
		t.Errorf("%s: Build is %d, a tree: %v; not %d", what, e, u != nil, err)
	}
	if plain := plainError(l); plain != err {
		t.Errorf("%s: by the chapter's words it is %d, not %d", what, plain, err)
	}
}

func TestP21_1Errors(t *testing.T) {
	long := strings.Repeat("b", 255)
	for what, x := range map[string]struct {
		l   []api.Pair
		err api.Errno
	}{
		"an empty key behind others":           {[]api.Pair{pair("a", 0), pair("b", 0), pair("", 0)}, api.ErrSize},
		"a nil pair":                           {[]api.Pair{{}}, api.ErrSize},
		"a key of 256 bytes":                   {[]api.Pair{pair(long+"b", 0)}, api.ErrSize},
		"a value of 262145 bytes":              {[]api.Pair{pair("a", 262145)}, api.ErrSize},
		"a value of 262145 bytes, the last":    {append(letters(9, 500), pair("z", 262145)), api.ErrSize},
		"a key twice":                          {[]api.Pair{pair("a", 0), pair("a", 0)}, api.ErrOrder},
		"a key twice, unlike values":           {[]api.Pair{pair("a", 0), pair("a", 1)}, api.ErrOrder},
		"a key of 255 bytes twice":             {[]api.Pair{pair(long, 0), pair(long, 1)}, api.ErrOrder},
		"a key behind one that it begins":      {[]api.Pair{pair("ab", 0), pair("a", 0)}, api.ErrOrder},
		"128 ahead of 127":                     {[]api.Pair{pair("\x80", 0), pair("\x7f", 0)}, api.ErrOrder},
		"the first again, far behind":          {append(letters(20, 500), pair("a", 500)), api.ErrOrder},
		"the last two the wrong way":           {append(letters(20, 500), pair("z", 0), pair("y", 0)), api.ErrOrder},
		"order in a pair, size in a later":     {[]api.Pair{pair("b", 0), pair("a", 0), pair("", 0)}, api.ErrOrder},
		"size in a pair, order in a later":     {[]api.Pair{pair("b", 0), pair("c", 262145), pair("a", 0)}, api.ErrSize},
		"both in one pair: the value":          {[]api.Pair{pair("b", 0), pair("a", 262145)}, api.ErrSize},
		"both in one pair: the key":            {[]api.Pair{pair("b", 0), pair(strings.Repeat("a", 256), 0)}, api.ErrSize},
		"behind a key that may not be: size":   {[]api.Pair{pair(long+"b", 0), pair("a", 0)}, api.ErrSize},
		"behind a leaf that is full: an order": {append(letters(8, 500), pair("gg", 500)), api.ErrOrder},
	} {
		refused(t, what, x.l, x.err)
	}
}

// TestP21_1AnyErrors: pairs that rise, with faults by noise among them: the first one counts.
func TestP21_1AnyErrors(t *testing.T) {
	next := noise(2111)
	seen := map[api.Errno]int{}
	great := make([]byte, 262145)
	for range 3000 {
		l := woods()[1].some(next, next(30))
		for range next(4) {
			if len(l) == 0 {
				break
			}
			i, k := next(len(l)), next(len(l))
			switch next(5) {
			case 0:
				l[i].Key = nil
			case 1:
				l[i].Key = make([]byte, 256)
			case 2:
				l[i].Value = great
			case 3:
				l[i], l[k] = l[k], l[i]
			case 4:
				l[i].Key = l[k].Key
			}
		}
		err := plainError(l)
		seen[err]++
		if err != api.OK {
			refused(t, "by noise", l, err)
			continue
		}
		isBuilt(t, "by noise", l)
	}
	if len(seen) != 3 || seen[api.OK] < 100 || seen[api.ErrSize] < 100 || seen[api.ErrOrder] < 100 {
		t.Errorf("only these errors come: %v", seen)
	}
}

// TestP21_1Widest: keys and values as long as may be, and of no byte.
func TestP21_1Widest(t *testing.T) {
	long := strings.Repeat("b", 255)
	l := []api.Pair{pair("\x00", 0), pair("a", 262144), pair(long, 262144), pair(strings.Repeat("\xff", 255), 0)}
	u := isBuilt(t, "the widest", l)
	if u.Fresh() != 1+2*65 {
		t.Errorf("%d fresh", u.Fresh())
	}
	for _, p := range l {
		if value, is := u.Get(p.Key); !is || string(value) != string(p.Value) {
			t.Errorf("%.9q: %d bytes, %v", p.Key, len(value), is)
		}
	}
	for size, pages := range map[int]int{512: 0, 513: 1, 4085: 1, 4086: 2, 8170: 2, 8171: 3} {
		if u := isBuilt(t, "a chain", letters(1, size)); u.Fresh() != 1+pages {
			t.Errorf("a value of %d bytes: %d fresh", size, u.Fresh())
		}
	}
}

// TestP21_1LeafEdge: seven values of 512 bytes come to 3630, and the eighth pair has 6 bytes beside its value; a ninth one, with a chain, has 10.
func TestP21_1LeafEdge(t *testing.T) {
	for size := 440; size <= 475; size++ {
		eight := append(letters(7, 512), pair("h", size))
		nine := append(slices.Clone(eight), pair("i", 600))
		what := fmt.Sprint("the eighth of ", size)
		switch {
		case size <= 446:
			shapeIs(t, what, nine, []int{9})
		case size <= 456:
			shapeIs(t, what, eight, []int{8})
			shapeIs(t, what, nine, []int{8, 1, 2}, "i")
		default:
			shapeIs(t, what, eight, []int{7, 1, 2}, "h")
			shapeIs(t, what, nine, []int{7, 2, 2}, "h")
		}
	}
}

// TestP21_1Prefix: what all keys of a leaf have in common stands once; the pair that ends it weighs more than its own bytes.
func TestP21_1Prefix(t *testing.T) {
	var l []api.Pair
	for i := range 200 {
		l = append(l, pair(strings.Repeat("p", 200)+string([]byte{byte(i), 'q'}), 20))
	}
	alike := len(isBuilt(t, "alike", l).Nodes()[0].Pairs)
	for _, n := range []int{1, 2, 10, alike - 1, alike, alike + 1} {
		isBuilt(t, fmt.Sprint("another one behind ", n), append(slices.Clone(l[:n]), pair("q", 0)))
	}
	if alike < 100 {
		t.Errorf("%d in a leaf", alike)
	}
	nodes := isBuilt(t, "a full one", append(slices.Clone(l[:100]), pair("q", 0))).Nodes()
	if len(nodes) != 3 || len(nodes[0].Pairs) != 100 || string(nodes[2].Seps[0]) != "q" {
		t.Errorf("behind 100 that are alike:%s", shape(nodes))
	}
}

// TestP21_1Densest: as many pairs in a leaf as can be: no byte of value, one or two of the key behind what all have in common.
func TestP21_1Densest(t *testing.T) {
	for _, common := range []int{0, 1, 127, 128, 253} {
		head := strings.Repeat("p", common)
		l := []api.Pair{}
		if common > 0 {
			l = append(l, pair(head, 0))
		}
		for i := range 256 {
			for _, end := range []string{"", "\x00", "z"} {
				l = append(l, pair(head+string([]byte{byte(i)})+end, 0))
			}
		}
		nodes := isBuilt(t, fmt.Sprint(common, " in common"), l).Nodes()
		if len(nodes) != 3 || len(nodes[0].Pairs) < 670 {
			t.Errorf("%d in common:%s", common, shape(nodes))
		}
	}
}

// TestP21_1Separators: one byte more than the two keys beside it have in common.
func TestP21_1Separators(t *testing.T) {
	for _, x := range []struct{ last, first, sep string }{
		{"h", "i", "i"}, {"h", "iiii", "i"}, {"h", "ha", "ha"}, {"h", "h\x00", "h\x00"}, {"hzzz", "i", "i"}, {"happen", "happy", "happy"},
		{"happen", "happens", "happens"}, {"happen", "happens to be", "happens"}, {"h\x7f", "h\x80\x80", "h\x80"}, {"h", "\xff\xff", "\xff"},
		{"h" + strings.Repeat("x", 253) + "y", "h" + strings.Repeat("x", 253) + "z", "h" + strings.Repeat("x", 253) + "z"},
	} {
		l := append(letters(7, 512), pair(x.last, 200), pair(x.first, 300))
		shapeIs(t, fmt.Sprintf("%.9q and %.9q", x.last, x.first), l, []int{8, 1, 2}, x.sep)
	}
}

// TestP21_1BranchEdge: 15 separators of 255 bytes have 267 each; with 13 and one of 63, which has 74, they fill a page.
func TestP21_1BranchEdge(t *testing.T) {
	for n := 50; n <= 80; n++ {
		what := fmt.Sprint("the last separator of ", n)
		nodes := isBuilt(t, what, ladder(1, longs(15, n)...)).Nodes()
		root := nodes[len(nodes)-1]
		if n <= 63 && (root.Level != 1 || len(root.Kids) != 17) || n > 63 && (root.Level != 2 || len(root.Kids) != 2 || len(root.Seps[0]) != n) {
			t.Errorf("%s: the root has the level %d, %d kids", what, root.Level, len(root.Kids))
		}
	}
}

// TestP21_1OneKid: what is left at the end is a branch, of one kid too; the separator ahead of it goes up.
func TestP21_1OneKid(t *testing.T) {
	l := ladder(1, longs(16)...)
	nodes := isBuilt(t, "17 leaves", l).Nodes()
	want := append(slices.Repeat([]int{5}, 16), 16, 5, 1, 2)
	var got []int
	for _, n := range nodes {
		got = append(got, max(len(n.Pairs), len(n.Kids)))
	}
	if !slices.Equal(got, want) {
		t.Fatalf("%v, not %v", got, want)
	}
	if up := nodes[19].Seps[0]; string(up) != string(l[80].Key) || len(nodes[18].Seps) != 0 || nodes[18].Level != 1 {
		t.Errorf("%.9q went up, and %d separators stand in the last branch", up, len(nodes[18].Seps))
	}
}

// TestP21_1High: trees of all heights up to 5, with any number of leaves around those at which a level is full.
func TestP21_1High(t *testing.T) {
	t.Parallel()
	heights := map[int]int{}
	for _, leaves := range []int{1, 2, 15, 16, 17, 31, 32, 33, 48, 255, 256, 257, 258, 271, 272, 273, 300, 512, 513, 4500} {
		u := isBuilt(t, fmt.Sprint(leaves, " leaves"), ladder(2, longs(leaves-1)...))
		heights[u.Height()]++
	}
	for h := 1; h <= 5; h++ {
		if heights[h] == 0 {
			t.Errorf("no tree of height %d: %v", h, heights)
		}
	}
}

// TestP21_1Lengths: separators of all lengths, by noise.
func TestP21_1Lengths(t *testing.T) {
	t.Parallel()
	next := noise(2112)
	for range 60 {
		var lens []int
		for range next(600) {
			lens = append(lens, 3+next([]int{1, 20, 130, 253}[next(4)]))
		}
		isBuilt(t, fmt.Sprint(len(lens), " separators"), ladder(2, lens...))
	}
}

// TestP21_1Woods: pairs of all kinds, any number of them.
func TestP21_1Woods(t *testing.T) {
	for _, w := range woods() {
		t.Run(w.name, func(t *testing.T) {
			t.Parallel()
			next := noise(2113)
			for range 12 {
				isBuilt(t, w.name, w.some(next, next(w.pairs)))
			}
			isBuilt(t, w.name, w.some(next, w.pairs-w.pairs/20))
		})
	}
}

// TestP21_1Longer: pair by pair longer: every number of pairs, so each place at which a leaf or a branch is full.
func TestP21_1Longer(t *testing.T) {
	for _, w := range woods() {
		t.Run(w.name, func(t *testing.T) {
			t.Parallel()
			l := w.some(noise(2114), min(w.pairs-w.pairs/20, 250))
			for n := range l {
				isBuilt(t, fmt.Sprint("the first ", n), l[:n:n])
			}
		})
	}
}
