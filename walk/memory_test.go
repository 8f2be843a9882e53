package walk_test

import (
	"bytes"
	"fmt"
	"iter"
	"reflect"
	"slices"
	"strings"
	"testing"

	"coppice/api"
	"coppice/tree"
	"coppice/walk"
)

// spoil writes over bytes and their spare room.
func spoil(b []byte) {
	b = b[:cap(b)]
	for i := range b {
		b[i] ^= 0xa5
	}
}

// spoilPairs writes over pairs, all that they hold, and all spare room.
func spoilPairs(l []api.Pair) {
	for _, p := range l {
		spoil(p.Key)
		spoil(p.Value)
	}
	l = l[:cap(l)]
	for i := range l {
		l[i] = api.Pair{Key: []byte("spoilt"), Value: []byte("spoilt")}
	}
}

// asked are all answers about some strings, as pairs; spoilt once they are noted, so that what shares memory with them shows it.
func asked(x *tree.Tree, lo, hi string) []plain {
	var l []plain
	note := func(pairs ...api.Pair) {
		l = append(l, plainOf(pairs))
		spoilPairs(pairs)
	}
	for _, seq := range []iter.Seq2[[]byte, []byte]{walk.Range(x, []byte(lo), []byte(hi)), walk.Back(x, []byte(lo), []byte(hi))} {
		for range 2 {
			var given []api.Pair
			for k, v := range seq {
				given = append(given, api.Pair{Key: k, Value: v})
			}
			note(given...)
		}
	}
	note(walk.Take(x, []byte(lo), []byte(hi), 1+x.Len()/2)...)
	nth, _ := walk.Nth(x, walk.Rank(x, []byte(lo)))
	note(nth)
	from, _ := walk.From(x, []byte(lo))
	note(from)
	upTo, _ := walk.UpTo(x, []byte(lo))
	note(upTo)
	return l
}

// No call changes a tree, and no answer is a part of one, whatever is written into it: the same is answered again, and the nodes are as they were.
func TestP11_7AnswersAreNewMemory(t *testing.T) {
	t.Parallel()
	for i, g := range groves(t) {
		was := g.x.Nodes()
		next := noise(uint64(900 + i))
		l := bounds(g, 20)
		for range 12 {
			lo, hi := l[next(len(l))], l[next(len(l))]
			first, second := asked(g.x, lo, hi), asked(g.x, lo, hi)
			if !slices.EqualFunc(first, second, slices.Equal[plain]) {
				t.Errorf("%s: of %.20q and %.20q other answers the second time", g.name, lo, hi)
			}
			walk.Count(g.x, []byte(lo), []byte(hi))
		}
		if !reflect.DeepEqual(g.x.Nodes(), was) {
			t.Errorf("%s: the tree has changed", g.name)
		}
	}
}

// While a sequence is being gone over, what it gives is written over as it comes; the rest is as it should be, and so is each one kept from before.
func TestP11_7SpoiltAsItComes(t *testing.T) {
	t.Parallel()
	for _, g := range groves(t) {
		for _, w := range ways(g) {
			var kept []api.Pair
			for k, v := range w.seq {
				kept = append(kept, api.Pair{Key: k, Value: v})
			}
			var came plain
			for k, v := range w.seq {
				came = append(came, pair{string(k), string(v)})
				spoil(k)
				spoil(v)
			}
			wantPairs(t, w.name+", spoilt", came, w.want)
			wantPairs(t, w.name+", kept", plainOf(kept), w.want)
		}
	}
}

// No two lists that are answered or given share memory: each is filled with something of its own, its spare room too, and none shows another one's.
func TestP11_7ListsOfOneAnswer(t *testing.T) {
	t.Parallel()
	for _, g := range groves(t) {
		for _, w := range ways(g) {
			var lists [][]byte
			for k, v := range w.seq {
				lists = append(lists, k, v)
			}
			wantApart(t, w.name, lists)
		}
		var lists [][]byte
		for _, p := range walk.Take(g.x, nil, nil, g.x.Len()) {
			lists = append(lists, p.Key, p.Value)
		}
		for i := range min(g.x.Len(), 20) {
			p, _ := walk.Nth(g.x, i)
			q, _ := walk.From(g.x, p.Key)
			r, _ := walk.UpTo(g.x, p.Key)
			lists = append(lists, p.Key, p.Value, q.Key, q.Value, r.Key, r.Value)
		}
		wantApart(t, g.name+": Take and others", lists)
	}
}

// wantApart asks that no two lists share memory.
func wantApart(t *testing.T, name string, lists [][]byte) {
	t.Helper()
	fill := func(i int) []byte { return bytes.Repeat(fmt.Append(nil, "#", i, "#"), 1+cap(lists[i]))[:cap(lists[i])] }
	for i, b := range lists {
		copy(b[:cap(b)], fill(i))
	}
	for i, b := range lists {
		if !bytes.Equal(b[:cap(b)], fill(i)) {
			t.Fatalf("%s: the list %d shows what was written into another one", name, i)
		}
	}
}

// What is handed in is as it was behind the call, and behind the sequence's end; its spare room too.
func TestP11_7HandedInIsNotChanged(t *testing.T) {
	t.Parallel()
	for i, g := range groves(t) {
		next := noise(uint64(950 + i))
		l := bounds(g, 20)
		for range 12 {
			lo, loSame := roomy(l[next(len(l))])
			hi, hiSame := roomy(l[next(len(l))])
			gone(walk.Range(g.x, lo, hi))
			gone(walk.Back(g.x, lo, hi))
			walk.Take(g.x, lo, hi, 3)
			walk.Count(g.x, lo, hi)
			for _, key := range [][]byte{lo, hi} {
				walk.Rank(g.x, key)
				p, _ := walk.From(g.x, key)
				q, _ := walk.UpTo(g.x, key)
				spoilPairs([]api.Pair{p, q})
			}
			if !loSame() || !hiSame() {
				t.Errorf("%s: what was handed in has changed: %.20q, %.20q", g.name, lo, hi)
			}
		}
	}
}

// lo and hi are the caller's again as soon as Range or Back has answered.
func TestP11_7HandedInIsNotKept(t *testing.T) {
	t.Parallel()
	for i, g := range groves(t) {
		next := noise(uint64(970 + i))
		l := bounds(g, 20)
		for range 12 {
			lo, hi := l[next(len(l))], l[next(len(l))]
			for name, way := range map[string]func(*tree.Tree, []byte, []byte) iter.Seq2[[]byte, []byte]{"Range": walk.Range, "Back": walk.Back} {
				want := g.p.within(lo, hi)
				if name == "Back" {
					want = want.falling()
				}
				a, b := slices.Grow([]byte(lo), 9), slices.Grow([]byte(hi), 9)
				seq := way(g.x, a, b)
				spoil(a)
				spoil(b)
				wantPairs(t, fmt.Sprintf("%s: %s of %.20q and %.20q, spoilt", g.name, name, lo, hi), gone(seq), want)
				for range seq {
					spoil(a)
					spoil(b)
				}
				wantPairs(t, fmt.Sprintf("%s: %s of %.20q and %.20q, spoilt while it is gone over", g.name, name, lo, hi), gone(seq), want)
			}
		}
	}
}

// The list that Take answers has room of its own: what is appended to one answer no other one shows.
func TestP11_7TakenListsApart(t *testing.T) {
	g := four(t)
	a, b := walk.Take(g.x, nil, nil, 3), walk.Take(g.x, nil, nil, 3)
	a = append(a, api.Pair{Key: []byte("x")})
	b = append(b, api.Pair{Key: []byte("y")})
	if string(a[3].Key) != "x" || string(b[3].Key) != "y" {
		t.Errorf("appended: %q, %q", a[3].Key, b[3].Key)
	}
	for i := range a[:3] {
		a[i].Key = append(a[i].Key, strings.Repeat("z", 20)...)
		if !bytes.Equal(b[i].Key, []byte(g.p[i].key)) {
			t.Errorf("the key %d is %q", i, b[i].Key)
		}
	}
}
