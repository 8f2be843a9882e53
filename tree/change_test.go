package tree_test

import (
	"bytes"
	"strings"
	"testing"

	"coppice/api"
	"coppice/tree"
)

// v500 is a value of 500 bytes: its pair with a key of one letter has 506 bytes in a leaf, and the leaf 4 more.
var v500 = strings.Repeat("v", 500)

// lettered is a tree of keys of one letter each, laid in from the first on.
func lettered(t *testing.T, keys string) *tree.Tree {
	t.Helper()
	x := tree.Empty()
	for _, k := range lettersOf(keys) {
		x = with(t, x, k, v500)
	}
	return x
}

// wantGet asks for a key's value.
func wantGet(t *testing.T, x *tree.Tree, key, want string, has bool) {
	t.Helper()
	got, found := x.Get([]byte(key))
	if string(got) != want || found != has {
		t.Errorf("Get(%.20q) = %d bytes %.20q, %v; not %d bytes %.20q, %v", key, len(got), got, found, len(want), want, has)
	}
}

func TestP10_1Empty(t *testing.T) {
	x := tree.Empty()
	if x == nil {
		t.Fatal("Empty is nil")
	}
	if x.Len() != 0 || x.Height() != 0 || len(x.Nodes()) != 0 || x.Fresh() != 0 || len(x.Numbers()) != 0 {
		t.Errorf("Empty has %d pairs, height %d, nodes %v, %d fresh, numbers %v", x.Len(), x.Height(), x.Nodes(), x.Fresh(), x.Numbers())
	}
	wantGet(t, x, "a", "", false)
	wantGet(t, x, "", "", false)
	if y, had := x.Without([]byte("a")); had || y != x {
		t.Error("Without of Empty is not Empty itself")
	}
	if y, err := x.Numbered(nil); err != api.OK || y == nil || y.Len() != 0 {
		t.Errorf("Numbered of Empty, by no number: %d", err)
	}
	if y, err := x.Numbered([]int{2}); err != api.ErrTree || y != x {
		t.Errorf("Numbered of Empty, by one number: %d", err)
	}
}

// What is laid into one empty tree does not come into another one.
func TestP10_1EachEmpty(t *testing.T) {
	x, y := tree.Empty(), tree.Empty()
	with(t, x, "a", "b")
	if x.Len() != 0 || y.Len() != 0 || tree.Empty().Len() != 0 {
		t.Error("an empty tree has a pair")
	}
}

func TestP10_3Get(t *testing.T) {
	x := with(t, with(t, with(t, tree.Empty(), "b", "value"), "bb", ""), "d", strings.Repeat("long", 1000))
	wantGet(t, x, "b", "value", true)
	wantGet(t, x, "bb", "", true)
	wantGet(t, x, "d", strings.Repeat("long", 1000), true)
	for _, k := range []string{"a", "ba", "bbb", "c", "d\x00", "dd", "e", "\x00", "\xff", "B"} {
		wantGet(t, x, k, "", false)
	}
}

// A key that may not be is nowhere.
func TestP10_3KeysThatMayNotBe(t *testing.T) {
	long := strings.Repeat("k", 255)
	x := with(t, with(t, lettered(t, "abcdefghijklmnop"), long, "long"), "\x00", "zero")
	wantGet(t, x, long, "long", true)
	wantGet(t, x, "\x00", "zero", true)
	for _, k := range []string{"", long + "k", long + "\x00", strings.Repeat("k", 5000)} {
		wantGet(t, x, k, "", false)
	}
	if got, has := x.Get(nil); has || len(got) != 0 {
		t.Error("Get(nil) is there")
	}
}

// In trees of all heights each key is found, and none beside it; a separator that is no key neither.
func TestP10_3Trees(t *testing.T) {
	trees := full(t)
	heights := map[int]int{}
	for _, name := range names(trees) {
		x := trees[name]
		heights[x.Height()]++
		l := x.Nodes()
		has := map[string]string{}
		for _, n := range l {
			for _, p := range n.Pairs {
				has[string(p.Key)] = string(p.Value)
			}
		}
		for k, v := range has {
			wantGet(t, x, k, v, true)
			for _, other := range []string{k + "\x00", k[:len(k)-1], k[:len(k)-1] + string(k[len(k)-1]+1)} {
				v, is := has[other]
				wantGet(t, x, other, v, is)
			}
		}
		for _, n := range l {
			for _, s := range n.Seps {
				v, is := has[string(s)]
				wantGet(t, x, string(s), v, is)
			}
		}
	}
	for h := range 4 {
		if heights[h] == 0 {
			t.Errorf("no tree of height %d", h)
		}
	}
}

func TestP10_4Errors(t *testing.T) {
	trees := full(t)
	for _, name := range names(trees) {
		x := trees[name]
		for _, p := range []api.Pair{
			{Key: nil, Value: []byte("x")},
			{Key: []byte{}, Value: []byte("x")},
			{Key: make([]byte, 256), Value: []byte("x")},
			{Key: make([]byte, 70000)},
			{Key: []byte("k"), Value: make([]byte, 262145)},
			{Key: []byte("k"), Value: make([]byte, 1<<20)},
			{Key: nil, Value: make([]byte, 262145)},
		} {
			if y, err := x.With(p.Key, p.Value); err != api.ErrSize || y != x {
				t.Errorf("%s: With of %d and %d bytes: %d", name, len(p.Key), len(p.Value), err)
			}
		}
	}
}

func TestP10_4TheLongestThatMayBe(t *testing.T) {
	key, value := strings.Repeat("k", 255), strings.Repeat("v", 262144)
	x := with(t, lettered(t, "abcdefghi"), key, value)
	wantGet(t, x, key, value, true)
	if x.Len() != 10 || x.Fresh() != 3+65 {
		t.Errorf("%d pairs, %d fresh", x.Len(), x.Fresh())
	}
	y := with(t, tree.Empty(), "k", "")
	wantGet(t, y, "k", "", true)
}

// With just the value that the key has is the tree itself.
func TestP10_4TheSameValue(t *testing.T) {
	trees := full(t)
	for _, name := range names(trees) {
		x := trees[name]
		for i, p := range (plainFrom(x.Nodes(), nil)).pairs() {
			if i%7 != 0 {
				continue
			}
			y, err := x.With([]byte(p.key), []byte(p.value))
			if err != api.OK || y != x {
				t.Errorf("%s: With of what it has is another tree, %d", name, err)
			}
		}
	}
	x := with(t, tree.Empty(), "k", "")
	for _, value := range [][]byte{nil, {}, []byte("abc")[:0]} {
		if y, err := x.With([]byte("k"), value); err != api.OK || y != x {
			t.Error("With of no value is another tree")
		}
	}
}

// A value that differs in one bit, or is a byte longer or shorter, is another one.
func TestP10_4AlmostTheSameValue(t *testing.T) {
	for _, size := range []int{1, 500, 513, 9000} {
		value := strings.Repeat("v", size)
		x := numbered(t, with(t, lettered(t, "abcdefghi"), "f", value), 2)
		for _, other := range []string{value[1:], value + "v", "w" + value[1:], value[1:] + "w", ""} {
			y := with(t, x, "f", other)
			wantGet(t, y, "f", other, true)
			wantGet(t, x, "f", value, true)
			if y == x || y.Fresh() == 0 || y.Len() != 9 {
				t.Errorf("a value of %d bytes for one of %d: %d fresh", len(other), size, y.Fresh())
			}
		}
	}
}

// Where a key belongs: behind as many separators as are not above it; one that is a separator lies behind it.
func TestP10_4WhereAKeyBelongs(t *testing.T) {
	x := built(t, []api.Node{
		leafOf(2, 500, "aa", "ab", "ac", "ad", "ae"), leafOf(3, 500, "ca", "cb", "cc", "cd", "ce"), leafOf(4, 500, "ea", "eb", "ec", "ed", "ee"),
		branchOf(5, 1, []string{"b", "dd"}, 0, 1, 2),
	})
	for _, c := range []struct {
		key      string
		leaf, at int
	}{
		{"a", 0, 0}, {"abb", 0, 2}, {"af", 0, 5}, {"azzz", 0, 5},
		{"b", 1, 0}, {"b\x00", 1, 0}, {"ccc", 1, 3}, {"d", 1, 5}, {"dc\xff", 1, 5},
		{"dd", 2, 0}, {"e", 2, 0}, {"ef", 2, 5}, {"\xff", 2, 5}, {"\x00", 0, 0},
	} {
		l := with(t, x, c.key, "new").Nodes()
		if len(l) != 4 || len(l[c.leaf].Pairs) != 6 || string(l[c.leaf].Pairs[c.at].Key) != c.key {
			t.Errorf("%q does not stand in leaf %d at %d:\n%s", c.key, c.leaf, c.at, tell(l))
		}
		for i, n := range l[:3] {
			if (n.No == 0) != (i == c.leaf) {
				t.Errorf("With(%q): leaf %d has the number %d", c.key, i, n.No)
			}
		}
	}
}

func TestP10_4IntoTheEmptyTree(t *testing.T) {
	for _, size := range []int{0, 1, 512, 513, 262144} {
		x := with(t, tree.Empty(), "k", strings.Repeat("v", size))
		wantNodes(t, "one pair", x, []api.Node{leafOf(0, size, "k")})
		if x.Height() != 1 || x.Len() != 1 {
			t.Errorf("height %d, %d pairs", x.Height(), x.Len())
		}
	}
}

func TestP10_5NotThere(t *testing.T) {
	trees := full(t)
	for _, name := range names(trees) {
		x := trees[name]
		long := make([]byte, 300)
		keys := [][]byte{nil, {}, []byte("not there"), long, long[:256]}
		for i, p := range (plainFrom(x.Nodes(), nil)).pairs() {
			if i%9 == 0 {
				keys = append(keys, []byte(p.key+"\x00"), []byte(p.key+"!"))
			}
		}
		for _, key := range keys {
			if _, is := x.Get(key); is {
				continue
			}
			if y, had := x.Without(key); had || y != x {
				t.Errorf("%s: Without(%.20q), which is not there: %v", name, key, had)
			}
		}
	}
}

func TestP10_5TakenOut(t *testing.T) {
	trees := full(t)
	for _, name := range names(trees) {
		x := trees[name]
		for i, p := range (plainFrom(x.Nodes(), nil)).pairs() {
			if i%13 != 0 {
				continue
			}
			y, had := x.Without([]byte(p.key))
			if !had || y == nil || y.Len() != x.Len()-1 {
				t.Fatalf("%s: Without(%.20q): %v", name, p.key, had)
			}
			wantGet(t, y, p.key, "", false)
			wantGet(t, x, p.key, p.value, true)
		}
	}
}

func TestP10_5TheLastOne(t *testing.T) {
	for _, size := range []int{0, 512, 513, 9000} {
		x := numbered(t, with(t, tree.Empty(), "k", string(bytes.Repeat([]byte{1}, size))), 2)
		y := without(t, x, "k")
		if y.Len() != 0 || y.Height() != 0 || len(y.Nodes()) != 0 || y.Fresh() != 0 || len(y.Numbers()) != 0 {
			t.Errorf("not empty: %s", tell(y.Nodes()))
		}
	}
}
