package cut_test

import (
	"bytes"
	"fmt"
	"slices"
	"strings"

	"coppice/api"
)

// sized is an item with a value of that many bytes; of more than 512 it lies in a chain.
func sized(key string, size int) api.Item {
	it := api.Item{Key: []byte(key), Size: size}
	if size > 512 {
		it.First = 9
	} else {
		it.Value = bytes.Repeat([]byte{'v'}, size)
	}
	return it
}

// letters are n items of one letter each, with values of that many bytes.
func letters(n, size int) []api.Item {
	var l []api.Item
	for i := range n {
		l = append(l, sized(string(rune('A'+i)), size))
	}
	return l
}

// bare are items of these keys, without values.
func bare(keys ...string) []api.Item {
	var l []api.Item
	for _, k := range keys {
		l = append(l, sized(k, 0))
	}
	return l
}

// list is a list of byte strings.
func list(l ...string) [][]byte {
	var out [][]byte
	for _, s := range l {
		out = append(out, []byte(s))
	}
	return out
}

// xs is a string of n bytes.
func xs(n int) string { return strings.Repeat("x", n) }

// behind are strings of one letter each and n bytes behind it, with nothing in common.
func behind(n int, letters string) []string {
	var l []string
	for _, c := range letters {
		l = append(l, string(c)+xs(n))
	}
	return l
}

// keysOf are the keys of items.
func keysOf(items []api.Item) [][]byte {
	var l [][]byte
	for _, it := range items {
		l = append(l, it.Key)
	}
	return l
}

// plainV tells how many bytes a number's least form has: one for each seven bits.
func plainV(x int) int {
	n := 1
	for ; x >= 128; x /= 128 {
		n++
	}
	return n
}

// plainPrefix tells how many bytes all strings begin with, the first one shortened till it begins all.
func plainPrefix(l [][]byte) int {
	if len(l) == 0 {
		return 0
	}
	head := l[0]
	for _, s := range l {
		for !bytes.HasPrefix(s, head) {
			head = head[:len(head)-1]
		}
	}
	return len(head)
}

// plainLeafSize adds up P4.1's numbers.
func plainLeafSize(items []api.Item) int {
	p := plainPrefix(keysOf(items))
	n := 3 + plainV(p) + p
	for _, it := range items {
		rest, size := len(it.Key)-p, it.Size
		if size < 0 {
			size = 0
		}
		if size > 262144 {
			size = 262144
		}
		n += 2 + plainV(rest) + rest
		if size > 512 {
			n += plainV(2*size+1) + 4
		} else {
			n += plainV(2*size) + size
		}
	}
	return n
}

// plainBranchSize adds up P5.1's numbers.
func plainBranchSize(seps [][]byte) int {
	p := plainPrefix(seps)
	n := 12 + plainV(p) + p
	for _, s := range seps {
		n += 10 + plainV(len(s)-p) + len(s) - p
	}
	return n
}

// plainBest goes through all places from 1 to last, and keeps the first one whose greater part is least.
func plainBest(last int, parts func(i int) (int, int)) int {
	best, least := 0, 0
	for i := 1; i <= last; i++ {
		a, b := parts(i)
		if a > 4092 || b > 4092 {
			continue
		}
		if a < b {
			a = b
		}
		if best == 0 || a < least {
			best, least = i, a
		}
	}
	return best
}

// plainLeaf is P9.2, place by place.
func plainLeaf(items []api.Item) int {
	return plainBest(len(items)-1, func(i int) (int, int) {
		return plainLeafSize(items[:i]), plainLeafSize(items[i:])
	})
}

// plainBranch is P9.3, place by place: n kids have n - 1 separators.
func plainBranch(seps [][]byte) int {
	n := len(seps) + 1
	return plainBest(n-1, func(i int) (int, int) {
		return plainBranchSize(seps[:i-1]), plainBranchSize(seps[i:])
	})
}

// noise answers one number behind the other, always the same ones.
func noise(seed uint64) func(n int) int {
	return func(n int) int {
		seed = seed*6364136223846793005 + 1442695040888963407
		return int((seed >> 33) % uint64(n))
	}
}

// anyString is a string of noise over few letters, so that many strings begin alike.
func anyString(next func(int) int, least, most int) []byte {
	s := make([]byte, least+next(most-least+1))
	for i := range s {
		s[i] = "aab\x00\xff"[next(5)]
	}
	return s
}

// shape is how a list of noise is made: what all begin with, how long they may be behind it, how long values may be.
type shape struct {
	head        []byte
	least, most int
	values      []int
}

// anyShape is a shape of noise. No string of it has more than 255 bytes.
func anyShape(next func(int) int) shape {
	s := shape{head: anyString(next, 0, []int{0, 3, 40, 126, 127, 128, 130, 200}[next(8)])}
	s.most = min([]int{3, 8, 30, 125, 255}[next(5)], 255-len(s.head))
	s.least = min([]int{1, 3, 100, 255}[next(4)], s.most)
	s.values = [][]int{{0}, {0, 1, 2, 7}, {63, 64, 65}, {500}, {512}, {0, 512}, {0, 30, 512, 513, 262144}, {8191, 8192}, {1, 100, 300}}[next(9)]
	return s
}

// text is one string of that shape.
func (s shape) text(next func(int) int) []byte {
	return append(bytes.Clone(s.head), anyString(next, s.least, s.most)...)
}

// item is one item of that shape.
func (s shape) item(next func(int) int) api.Item {
	return sized(string(s.text(next)), s.values[next(len(s.values))])
}

// items are n items of that shape at most, that may be: by rising keys.
func (s shape) items(next func(int) int, n int) []api.Item {
	var l []api.Item
	for range n {
		l = append(l, s.item(next))
	}
	return sorted(l)
}

// seps are n separators of that shape at most, that rise.
func (s shape) seps(next func(int) int, n int) [][]byte { return keysOf(s.items(next, n)) }

// byKey orders items by their keys.
func byKey(a, b api.Item) int { return bytes.Compare(a.Key, b.Key) }

// sorted are items by rising keys, one of each key.
func sorted(l []api.Item) []api.Item {
	slices.SortStableFunc(l, byKey)
	return slices.CompactFunc(l, func(a, b api.Item) bool { return byKey(a, b) == 0 })
}

// shuffled are the same elements in an order of noise, some of them twice.
func shuffled[T any](next func(int) int, l []T) []T {
	out := slices.Clone(l)
	for range len(out) / 8 {
		out = append(out, out[next(len(out))])
	}
	for i := range out {
		k := next(i + 1)
		out[i], out[k] = out[k], out[i]
	}
	return out
}

// crowd are many short keys: one begins all others, 256 have one byte more, n have two.
func crowd(n int) []api.Item {
	l := bare("k")
	for i := range 256 {
		l = append(l, sized(string([]byte{'k', byte(i)}), 0))
	}
	for i := range n {
		l = append(l, sized(string([]byte{'k', byte(i / 256), byte(i)}), 0))
	}
	return sorted(l)
}

// outliers are n keys behind 200 bytes that all have in common, and others that have not, ahead of them and behind.
func outliers(n, ahead, back int) []api.Item {
	var l []api.Item
	for i := range ahead {
		l = append(l, sized(string(rune('A'+i)), 5))
	}
	for i := range n {
		l = append(l, sized(strings.Repeat("p", 200)+string([]byte{byte(i / 256), byte(i)}), 5))
	}
	for i := range back {
		l = append(l, sized("z"+string(rune('A'+i)), 5))
	}
	return l
}

// likely are lists of items that may be, small and great, with the edges that the chapters name.
func likely() [][]api.Item {
	l := [][]api.Item{nil, {}, crowd(0), crowd(3), crowd(467), crowd(1200)}
	for n := 1; n <= 20; n++ {
		l = append(l, letters(n, 500), letters(n, 512), letters(n, 0), letters(n, 513))
	}
	for _, n := range []int{1, 2, 20, 140, 300, 345, 380} {
		l = append(l, outliers(n, 0, 0), outliers(n, 1, 0), outliers(n, 0, 1), outliers(n, 3, 2))
	}
	next := noise(9)
	for round := range 400 {
		l = append(l, anyShape(next).items(next, 1+next(1+round)))
	}
	return l
}

// likelySeps are separators that rise, small and great.
func likelySeps() [][][]byte {
	var l [][][]byte
	for _, items := range likely() {
		l = append(l, keysOf(items))
	}
	for _, n := range []int{99, 100, 127, 128, 249, 254} {
		for k := 1; k <= 40; k++ {
			l = append(l, list(behind(n, "ABCDEFGHIJKLMNOPQRSTUVWXYZabcdefghijklmnopqrstuvwxyz"[:k])...))
		}
	}
	return l
}

// loose are lists of items that may not be: in any order, keys twice, without bytes or too long, sizes beyond their ends.
func loose() [][]api.Item {
	l := [][]api.Item{
		bare(""), bare("", ""), bare("", "", ""), bare("b", "a"), bare("a", "a", "a"), bare("", xs(300), ""),
		bare(xs(127), xs(128), "y"), bare("y", xs(128), xs(127)), bare(xs(16383), xs(16384)), bare(xs(4000), xs(4000)+"y", xs(4000)+"z"),
		{{Key: []byte("a"), Size: -1}, {Key: []byte("b"), Size: 300000}, {Key: []byte("c"), Size: -1 << 62}, {Size: 1 << 62, First: -5}},
		{{Key: []byte("a"), Size: 600, Value: []byte("spare")}, {Key: []byte("b"), Value: make([]byte, 5000)}, {Key: []byte("c"), First: 1}},
	}
	next := noise(99)
	for round := range 300 {
		s := anyShape(next)
		items := shuffled(next, s.items(next, 1+next(1+round)))
		for range next(4) {
			odd := &items[next(len(items))]
			switch next(4) {
			case 0:
				odd.Key = nil
			case 1:
				odd.Key = anyString(next, 256, 5000)
			case 2:
				odd.Size = []int{-1, -5000, 262145, 1 << 40}[next(4)]
			case 3:
				odd.Value, odd.First = make([]byte, next(5000)), next(5)-2
			}
		}
		l = append(l, items)
	}
	return l
}

// looseSeps are lists of any strings, in any order.
func looseSeps() [][][]byte {
	var l [][][]byte
	for _, items := range loose() {
		l = append(l, keysOf(items))
	}
	return l
}

// tell is a list of strings in few words.
func tell(l [][]byte) string {
	var b strings.Builder
	fmt.Fprintf(&b, "%d:", len(l))
	for _, s := range l[:min(len(l), 4)] {
		fmt.Fprintf(&b, " %.20q(%d bytes)", s, len(s))
	}
	return b.String()
}

// tellItems is a list of items in few words.
func tellItems(items []api.Item) string { return tell(keysOf(items)) }
