package bulk_test

import (
	"maps"
	"slices"
	"strings"

	"coppice/api"
)

// fill is a value of n bytes.
func fill(n, seed int) []byte {
	b := make([]byte, n)
	for i := range b {
		b[i] = byte(i*7 + i>>8 + seed)
	}
	return b
}

func pair(key string, size int) api.Pair {
	return api.Pair{Key: []byte(key), Value: fill(size, len(key))}
}

// letters are pairs of one letter each, from "a" on, with values of so many bytes.
func letters(n, size int) []api.Pair {
	var l []api.Pair
	for i := range n {
		l = append(l, pair(string(rune('a'+i)), size))
	}
	return l
}

// anyOf is a string of n bytes out of a few.
func anyOf(next func(int) int, n int, of string) string {
	b := make([]byte, n)
	for i := range b {
		b[i] = of[next(len(of))]
	}
	return string(b)
}

// wood is a kind of pairs, and how many of them there are.
type wood struct {
	name  string
	pairs int
	key   func(next func(int) int) string
	sizes []int // how many bytes a value may have
}

// woods are all kinds: few and many, short and long, with chains and without.
func woods() []wood {
	return []wood{
		{"letters", 52, func(next func(int) int) string {
			return anyOf(next, 1, "ABCDEFGHIJKLMNOPQRSTUVWXYZabcdefghijklmnopqrstuvwxyz")
		}, []int{500, 500, 500, 300, 100}},
		{"small", 900, func(next func(int) int) string { return anyOf(next, 1+next(5), "\x00abcdefg\xff") }, []int{0, 1, 7, 30}},
		{"bare", 3000, func(next func(int) int) string { return anyOf(next, 1+next(6), "\x00abcdefg\xff") }, []int{0}},
		{"high", 1500, func(next func(int) int) string {
			cluster := next(250)
			return string([]byte{byte(cluster * 37), byte(cluster)}) + strings.Repeat("x", 252) + anyOf(next, 1, "0123456789")
		}, []int{512, 512, 512, 400}},
		{"chains", 300, func(next func(int) int) string { return anyOf(next, 1+next(60), "ab\x00\xff") }, []int{0, 512, 513, 513, 4085, 4086, 9000}},
		{"mixed", 600, func(next func(int) int) string { return anyOf(next, 1+next(255), "aab\xff") }, []int{0, 1, 100, 300, 512, 512, 513}},
		{"heads", 500, func(next func(int) int) string {
			return []string{"", strings.Repeat("p", 150), strings.Repeat("p", 149) + "q"}[next(3)] + anyOf(next, 1+next(100), "abc")
		}, []int{0, 60, 200, 512}},
	}
}

// some are n pairs of that wood.
func (w wood) some(next func(int) int, n int) []api.Pair {
	m := map[string][]byte{}
	for len(m) < n {
		m[w.key(next)] = fill(w.sizes[next(len(w.sizes))], next(256))
	}
	return pairsOf(m)
}

// pairsOf are the pairs of a map, by rising keys.
func pairsOf(m map[string][]byte) []api.Pair {
	var l []api.Pair
	for _, key := range slices.Sorted(maps.Keys(m)) {
		l = append(l, api.Pair{Key: []byte(key), Value: m[key]})
	}
	return l
}

// ladder are pairs of which each leaf takes just five: keys of 255 bytes, values of 512, and nothing (or, beyond 256 beginnings, next to nothing) in common. lens tells how long each separator between two leaves is.
// Each key but those at both sides of a separator has a beginning of its own, of one byte or of two; a separator has one byte more at least. With one byte there may be 63 leaves.
func ladder(beginning int, lens ...int) []api.Pair {
	var l []api.Pair
	at := 0
	key := func(common int, mark byte) {
		start := []byte{byte(at >> 8), byte(at)}[2-beginning:]
		body := append(slices.Concat(start, slices.Repeat([]byte{'x'}, 255))[:common], mark)
		for len(body) < 255 {
			body = append(body, 'y')
		}
		l = append(l, api.Pair{Key: body, Value: fill(512, at)})
	}
	for i := range len(lens) + 1 {
		if i > 0 {
			key(lens[i-1]-1, '1') // of the beginning of the last key
		}
		for range 5 - len(l)%5 - 1 {
			at++
			key(beginning, 'm')
		}
		at++
		if i < len(lens) {
			key(lens[i]-1, '0')
		} else {
			key(beginning, 'm')
		}
	}
	return l
}

// longs are n lengths of 255, and these behind them.
func longs(n int, more ...int) []int { return append(slices.Repeat([]int{255}, n), more...) }
