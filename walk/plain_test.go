package walk_test

import (
	"bytes"
	"fmt"
	"iter"
	"slices"
	"sort"
	"strings"
	"sync"
	"testing"

	"coppice/api"
	"coppice/tree"
)

// noise tells numbers from 0 on, below the one it is given; the same ones for the same seed.
func noise(seed uint64) func(n int) int {
	return func(n int) int {
		seed = seed*6364136223846793005 + 1442695040888963407
		return int((seed >> 33) % uint64(n))
	}
}

// pair is a key with its value.
type pair struct{ key, value string }

// plain is a map as the list of its pairs, by rising keys. Whatever is asked of it goes through all of it.
type plain []pair

// within are the pairs that are not ahead of lo, and ahead of hi or hi is empty.
func (p plain) within(lo, hi string) plain {
	var l plain
	for _, q := range p {
		if q.key >= lo && (hi == "" || q.key < hi) {
			l = append(l, q)
		}
	}
	return l
}

// rank is how many keys stand ahead of key.
func (p plain) rank(key string) int {
	n := 0
	for _, q := range p {
		if q.key < key {
			n++
		}
	}
	return n
}

// from is the first pair that does not stand ahead of key.
func (p plain) from(key string) (found pair, is bool) {
	for _, q := range p {
		if q.key >= key && !is {
			found, is = q, true
		}
	}
	return found, is
}

// upTo is the last pair that does not stand behind key.
func (p plain) upTo(key string) (found pair, is bool) {
	for _, q := range p {
		if q.key <= key {
			found, is = q, true
		}
	}
	return found, is
}

// falling is the same list the other way round.
func (p plain) falling() plain {
	l := slices.Clone(p)
	slices.Reverse(l)
	return l
}

// tell is the list as a short text.
func (p plain) tell() string {
	var b strings.Builder
	for _, q := range p {
		fmt.Fprintf(&b, " %.12q=%d", q.key, len(q.value))
	}
	return fmt.Sprintf("%d pairs%.300s", len(p), b.String())
}

// gone are the pairs that a sequence gives.
func gone(seq iter.Seq2[[]byte, []byte]) plain {
	var l plain
	for k, v := range seq {
		l = append(l, pair{string(k), string(v)})
	}
	return l
}

// plainOf are pairs as a plain list.
func plainOf(pairs []api.Pair) plain {
	var l plain
	for _, p := range pairs {
		l = append(l, pair{string(p.Key), string(p.Value)})
	}
	return l
}

// wantPairs asks that these pairs are told, in this order.
func wantPairs(t *testing.T, name string, got, want plain) {
	t.Helper()
	if !slices.Equal(got, want) {
		t.Errorf("%s:\n%s, not\n%s", name, got.tell(), want.tell())
	}
}

// wantPair asks that one pair is told, or none: then nothing stands beside it.
func wantPair(t *testing.T, name string, got api.Pair, is bool, want pair, wantIs bool) {
	t.Helper()
	if is != wantIs || string(got.Key) != want.key || string(got.Value) != want.value {
		t.Errorf("%s: %.20q = %d bytes, %v; not %.20q = %d bytes, %v", name, got.Key, len(got.Value), is, want.key, len(want.value), wantIs)
	}
}

// grove is a tree, and beside it what it should tell.
type grove struct {
	name string
	x    *tree.Tree
	p    plain
}

// with lays a pair into a tree.
func with(t *testing.T, x *tree.Tree, key, value string) *tree.Tree {
	t.Helper()
	y, err := x.With([]byte(key), []byte(value))
	if err != api.OK {
		t.Fatalf("With(%.20q, %d bytes): %d", key, len(value), err)
	}
	return y
}

// numbered is a tree with numbers for all that is new.
func numbered(t *testing.T, x *tree.Tree) *tree.Tree {
	t.Helper()
	var nos []int
	for i := range x.Fresh() {
		nos = append(nos, 300000+i)
	}
	y, err := x.Numbered(nos)
	if err != api.OK {
		t.Fatalf("Numbered: %d", err)
	}
	return y
}

// sorted is a map as a plain list.
func sorted(m map[string]string) plain {
	var l plain
	for k, v := range m {
		l = append(l, pair{k, v})
	}
	sort.Slice(l, func(i, k int) bool { return l[i].key < l[k].key })
	return l
}

// planted is the grove of pairs that are laid in as they stand.
func planted(t *testing.T, name string, l ...pair) grove {
	t.Helper()
	x, m := tree.Empty(), map[string]string{}
	for _, q := range l {
		x, m[q.key] = with(t, x, q.key, q.value), q.value
	}
	return grove{name, x, sorted(m)}
}

// four is the tree of the document's examples.
func four(t *testing.T) grove {
	t.Helper()
	return planted(t, "four", pair{"c", "\x03"}, pair{"a", "\x01"}, pair{"d", "\x04"}, pair{"b", "\x02"})
}

// anyOf is a string of n letters out of a few.
func anyOf(next func(int) int, n int, letters string) string {
	b := make([]byte, n)
	for i := range b {
		b[i] = letters[next(len(letters))]
	}
	return string(b)
}

// kind is a kind of keys and values of which groves are grown.
type kind struct {
	name  string
	pairs int
	key   func(next func(int) int) string
	size  func(next func(int) int) int
}

// kinds are all kinds: trees that are low and high, keys that begin one another, values in chains.
func kinds() []kind {
	return []kind{
		{"short keys", 300, func(next func(int) int) string { return anyOf(next, 1+next(5), "\x00\x01ab\xfe\xff") }, func(next func(int) int) int { return next(30) }},
		{"long keys", 280, func(next func(int) int) string {
			return anyOf(next, 1, "\x00\x7f\x80a\xff") + strings.Repeat("x", 253) + anyOf(next, 1, "0123456789abcdefghijklmnop")
		}, func(next func(int) int) int { return 400 + next(113) }},
		{"chains", 40, func(next func(int) int) string { return anyOf(next, 1+next(40), "ab\x00") }, func(next func(int) int) int { return []int{0, 512, 513, 600, 4085, 4086}[next(6)] }},
		{"mixed", 120, func(next func(int) int) string { return anyOf(next, 1+next(255), "aab\xff") }, func(next func(int) int) int { return next(600) }},
	}
}

// grow makes groves of one kind: grown, with numbers, changed behind that, and thinned out, so that separators stay whose keys have gone.
func grow(t *testing.T, k kind, next func(int) int) []grove {
	t.Helper()
	x, m := tree.Empty(), map[string]string{}
	put := func() {
		key, value := k.key(next), strings.Repeat(string(rune('a'+next(26))), k.size(next))
		x, m[key] = with(t, x, key, value), value
	}
	for range k.pairs {
		put()
	}
	l := []grove{{k.name, x, sorted(m)}}
	x = numbered(t, x)
	l = append(l, grove{k.name + ", numbered", x, sorted(m)})
	put()
	l = append(l, grove{k.name + ", changed", x, sorted(m)})
	for _, q := range sorted(m) {
		if next(3) > 0 {
			x, _ = x.Without([]byte(q.key))
			delete(m, q.key)
		}
	}
	return append(l, grove{k.name + ", thinned out", x, sorted(m)})
}

// lone is a tree built by hand whose first branch has one kid, and that leaf one pair; separators stand between keys.
func lone(t *testing.T) grove {
	t.Helper()
	var l []api.Node
	var p plain
	pad, value := strings.Repeat("m", 254), strings.Repeat("v", 500)
	leaf := func(keys ...string) {
		n := api.Node{No: 2 + len(l)}
		for _, k := range keys {
			p = append(p, pair{k, value})
			n.Pairs = append(n.Pairs, api.Pair{Key: []byte(k), Value: []byte(value)})
		}
		l = append(l, n)
	}
	leaf("A" + pad)
	l = append(l, api.Node{No: 3, Level: 1, Kids: []int{0}})
	second := api.Node{No: 20, Level: 1}
	for i := range 13 {
		head := string(rune('B' + i))
		if i > 0 {
			second.Seps = append(second.Seps, []byte(head+pad[1:]))
		}
		second.Kids = append(second.Kids, len(l))
		leaf(head+pad, head+pad[1:]+"y")
	}
	l = append(l, second, api.Node{No: 21, Level: 2, Seps: [][]byte{[]byte("A" + pad[1:] + "n")}, Kids: []int{1, len(l)}})
	x, err := tree.Build(l)
	if err != api.OK {
		t.Fatalf("Build: %d", err)
	}
	return grove{"lone", x, p}
}

// all are the groves that groves tells: trees never change, so one growing serves all tests.
var all struct {
	sync.Once
	groves []grove
}

// groves are trees of all kinds and heights.
func groves(t *testing.T) []grove {
	t.Helper()
	all.Do(func() {
		emptied, _ := with(t, tree.Empty(), "k", "v").Without([]byte("k"))
		long := strings.Repeat("\xff", 255)
		all.groves = []grove{
			{"empty", tree.Empty(), nil}, {"emptied", emptied, nil}, four(t), lone(t),
			planted(t, "one", pair{"k", "v"}), planted(t, "one without a value", pair{"k", ""}),
			planted(t, "the least and the greatest key", pair{"\x00", "least"}, pair{long, "greatest"}),
			planted(t, "each begins the next one", pair{"a", "1"}, pair{"a\x00", "2"}, pair{"a\x00\x00", "3"}, pair{"aa", "4"}, pair{"aa\xff", "5"}),
		}
		var nine []pair
		for _, c := range "abcdefghi" {
			nine = append(nine, pair{string(c), strings.Repeat(string(c), 500)})
		}
		all.groves = append(all.groves, planted(t, "nine", nine...))
		for i, k := range kinds() {
			all.groves = append(all.groves, grow(t, k, noise(uint64(70+i)))...)
		}
	})
	return all.groves
}

// The trees of these tests are of all heights, and each has the pairs that stand beside it.
func TestGroves(t *testing.T) {
	heights := map[int]int{}
	for _, g := range groves(t) {
		heights[g.x.Height()]++
		if g.x.Len() != len(g.p) {
			t.Errorf("%s: %d pairs, not %d", g.name, g.x.Len(), len(g.p))
		}
	}
	for h := range 4 {
		if heights[h] == 0 {
			t.Errorf("no tree of height %d", h)
		}
	}
}

// bounds are byte strings to ask a grove by: some of its keys, at most as many, and what stands right beside them, the separators of its branches likewise, and strings that no key may be.
func bounds(g grove, most int) []string {
	l := []string{"", "\x00", "\xff", "m", strings.Repeat("\xff", 255), strings.Repeat("\xff", 300), strings.Repeat("a", 1000)}
	var keys, seps []string
	for _, q := range g.p {
		keys = append(keys, q.key)
	}
	for _, n := range g.x.Nodes() {
		for _, s := range n.Seps {
			seps = append(seps, string(s))
		}
	}
	for _, k := range slices.Concat(someOf(keys, most), someOf(seps, most)) {
		last := len(k) - 1
		l = append(l, k, k+"\x00", k[:last], k[:last]+string([]byte{k[last] + 1}))
	}
	sort.Strings(l)
	return slices.Compact(l)
}

// someOf are at most as many of a list, from all over it, the last one among them.
func someOf(l []string, most int) []string {
	var some []string
	every := 1 + (len(l)-1)/most
	for i := len(l) - 1; i >= 0; i -= every {
		some = append(some, l[i])
	}
	return some
}

// spans goes through many lower ends and upper ends of each grove, also such that stand the wrong way round.
func spans(t *testing.T, each func(g grove, lo, hi string)) {
	t.Helper()
	for i, g := range groves(t) {
		next := noise(uint64(500 + i))
		l := bounds(g, 6)
		for _, lo := range l {
			each(g, lo, "")
			each(g, "", lo)
			each(g, lo, lo)
			for range 2 {
				each(g, lo, l[next(len(l))])
			}
		}
	}
}

// roomy is a string as bytes with spare room behind them, and whether all of it is as it was.
func roomy(s string) (b []byte, same func() bool) {
	whole := append([]byte(s), 0x55, 0x55, 0x55)
	were := bytes.Clone(whole)
	return whole[:len(s)], func() bool { return bytes.Equal(whole, were) }
}
