package look_test

import (
	"bytes"
	"fmt"
	"slices"
	"testing"

	"coppice/api"
	"coppice/cache"
	"coppice/look"
)

// roomy is a string as bytes with spare room behind them, and whether all of it is as it was.
func roomy(s string) (b []byte, same func() bool) {
	whole := append([]byte(s), 0x55, 0x55, 0x55)
	were := bytes.Clone(whole)
	return whole[:len(s)], func() bool { return bytes.Equal(whole, were) }
}

// spoil writes over bytes, and over their spare room; done twice or thrice it brings nothing back.
func spoil(b []byte) {
	b = b[:cap(b)]
	for i := range b {
		b[i] += 101
	}
}

// spoilPairs writes over all lists of pairs, and over their spare room.
func spoilPairs(l []api.Pair) {
	_ = append(l, api.Pair{Key: []byte("spare")})
	for _, p := range l {
		spoil(append(p.Key, 1, 2, 3))
		spoil(append(p.Value, 1, 2, 3))
		spoil(p.Key)
		spoil(p.Value)
	}
	l = l[:cap(l)]
	for i := range l {
		l[i] = api.Pair{Key: []byte("spoilt")}
	}
}

// mixed is a wood with values of all kinds.
func mixed() *wood { return planted(noise(5), 3, []int{0, 1, 5, 40, 512, 513, 4085, 4086, 9000}, 3, 3) }

// TestP14_7HandedIn: what is handed in is as it was, its spare room too, whatever the answer is; and nothing hangs on it any more.
func TestP14_7HandedIn(t *testing.T) {
	w := mixed()
	for _, root := range []int{w.root, 77777} {
		b := newBench(t, w.image(), 4, w.root, w.height)
		b.l = look.New(b.c, root, w.height)
		for _, s := range append(w.asking(), "", "\xff\xff") {
			key, same := roomy(s)
			hi, sameHi := roomy(s + "\xff")
			b.l.Get(key)
			b.l.Scan(key, hi, 5)
			b.l.Scan(hi, key, 5)
			b.l.Rank(key)
			c, _ := b.l.Seek(key)
			if c != nil {
				c.Next()
				c.Pair()
			}
			if !same() || !sameHi() {
				t.Fatalf("what was handed in has changed: %q", s)
			}
		}
	}
}

// TestP14_7NotKept: a key that was sought is the caller's again: what is written over it a cursor doesn't show.
func TestP14_7NotKept(t *testing.T) {
	w := mixed()
	b := newBench(t, w.image(), 4, w.root, w.height)
	for _, s := range w.asking() {
		key, _ := roomy(s)
		x, err := b.l.Seek(key)
		f, want := b.m.seek(s)
		b.same("Seek", fmt.Sprint(err), fmt.Sprint(want), 9)
		spoil(key)
		c := &cursor{b, x, f}
		for range 4 {
			c.pair()
			c.next()
		}
		for range 8 {
			c.prev()
			c.pair()
		}
	}
}

// TestP14_7Spoilt: what is written over an answer, or behind it, no later answer shows, through one cache with room for all pages.
func TestP14_7Spoilt(t *testing.T) {
	w := mixed()
	b := newBench(t, w.image(), api.MaxFrames, w.root, w.height)
	for range 2 {
		for i, q := range w.pairs {
			v, _, _ := b.get(string(q.Key))
			spoil(append(v, 1))
			spoil(v)
			p, _ := b.nth(i)
			spoilPairs([]api.Pair{p})
			l, _ := b.scan(string(q.Key), "", 3)
			spoilPairs(l)
		}
		l, _ := b.scan("", "", 999)
		if len(l) != len(w.pairs) {
			t.Fatalf("%d pairs, not %d", len(l), len(w.pairs))
		}
		spoilPairs(l)
		b.scan("", "", 999)
	}
}

// TestP14_7SpoiltCursor: what is written over the answer of Pair the cursor doesn't show, by what it tells and by where it goes.
func TestP14_7SpoiltCursor(t *testing.T) {
	w := mixed()
	b := newBench(t, w.image(), 3, w.root, w.height)
	c, _ := b.seek("")
	other, _ := b.seek("")
	both := func(move func(c *cursor) (bool, api.Errno)) {
		t.Helper()
		for range len(w.pairs) + 2 {
			for range 3 {
				p, _, _ := c.pair()
				spoilPairs([]api.Pair{p})
			}
			other.pair()
			if _, err := move(c); err != api.OK {
				t.Fatalf("a move: %d", err)
			}
			move(other)
		}
	}
	both((*cursor).next)
	both((*cursor).prev)
	both((*cursor).next)
}

// TestP14_7AnswerApart: what is written into one list of an answer, or behind it, no other list of it shows.
func TestP14_7AnswerApart(t *testing.T) {
	w := mixed()
	l, _ := fresh(t, w.image(), w.root, w.height)
	check := func(name string, pairs []api.Pair, want []api.Pair) {
		t.Helper()
		want = slices.Clone(want)
		for i := range pairs {
			spoil(append(pairs[i].Key, 7))
			spoil(pairs[i].Key)
			pairs[i].Key, want[i].Key = nil, nil
			if !slices.EqualFunc(pairs, want, samePair) {
				t.Fatalf("%s: what is written into the key %d is seen elsewhere", name, i)
			}
			spoil(append(pairs[i].Value, 7))
			spoil(pairs[i].Value)
			pairs[i].Value, want[i].Value = nil, nil
			if !slices.EqualFunc(pairs, want, samePair) {
				t.Fatalf("%s: what is written into the value %d is seen elsewhere", name, i)
			}
		}
	}
	pairs, _ := l.Scan(nil, nil, 999)
	check("Scan", pairs, w.pairs)
	for i := range w.pairs {
		p, _ := l.Nth(i)
		check("Nth", []api.Pair{p}, w.pairs[i:i+1])
		c, _ := l.Seek(w.pairs[i].Key)
		p, _, _ = c.Pair()
		check("Pair", []api.Pair{p}, w.pairs[i:i+1])
	}
}

// TestP14_7AnswersStay: what was told stays as it was, whatever is asked later.
func TestP14_7AnswersStay(t *testing.T) {
	w := mixed()
	c := cache.New(diskOf(t, w.image()), 5)
	l := look.New(c, w.root, w.height)
	all, _ := l.Scan(nil, nil, 999)
	var values [][]byte
	var nths, pairs []api.Pair
	x, _ := l.Seek(nil)
	for i, q := range w.pairs {
		v, _, _ := l.Get(q.Key)
		values = append(values, v)
		p, _ := l.Nth(i)
		nths = append(nths, p)
		p, _, _ = x.Pair()
		pairs = append(pairs, p)
		x.Next()
		again, _ := l.Scan(q.Key, nil, 4)
		spoilPairs(again)
	}
	for name, got := range map[string][]api.Pair{"Scan": all, "Nth": nths, "Pair": pairs} {
		if !slices.EqualFunc(got, w.pairs, samePair) {
			t.Errorf("%s: what was told has changed", name)
		}
	}
	for i, v := range values {
		if !bytes.Equal(v, w.pairs[i].Value) {
			t.Errorf("Get: value %d has changed", i)
		}
	}
}
