package branch_test

import (
	"bytes"
	"slices"
	"strings"
	"testing"

	"coppice/api"
	"coppice/branch"
	"coppice/chain"
	"coppice/leaf"
	"coppice/meta"
)

func TestP5_5ThereAndBack(t *testing.T) {
	next := noise(57)
	all := likely()
	for range 2000 {
		all = append(all, anyWood(next, 1+next(60)))
	}
	fitting := 0
	for _, w := range all {
		body, err := branch.Encode(w.level, w.seps, w.kids)
		if err != api.OK {
			continue
		}
		fitting++
		if back, err := decoded(body); err != api.OK || !same(back, w) {
			t.Errorf("Decode of Encode%v: %d, %v", w, err, back)
		}
	}
	if fitting < 1000 {
		t.Errorf("only %d branches had a body", fitting)
	}
}

func TestP5_5BackAndThere(t *testing.T) {
	next := noise(58)
	taken := 0
	for _, w := range likely() {
		body := mustEncode(t, w)
		for range 400 {
			b := bytes.Clone(body)
			b[next(branch.Size(w.seps))] = byte(next(256))
			back, err := decoded(b)
			if err != api.OK {
				continue
			}
			taken++
			if again, err := branch.Encode(back.level, back.seps, back.kids); err != api.OK || !bytes.Equal(again, b) {
				t.Errorf("Encode of Decode(%x): %d", b[:40], err)
			}
		}
	}
	if taken < 1000 {
		t.Errorf("only %d bodies were taken", taken)
	}
}

func TestP5_5UnlikeBranchesHaveUnlikeBodies(t *testing.T) {
	all := likely()
	// Each of these differs from one of the others in one thing alone.
	for _, w := range []wood{above(), above("m"), above("ma", "mb"), above("a", "aa", "ab", "b")} {
		other := w
		other.level++
		all = append(all, other)
		for i := range w.kids {
			for _, by := range []api.Kid{{No: 1}, {No: 256}, {No: 65536}, {Keys: 1}, {Keys: 256}, {Keys: 65536}, {Keys: 1 << 24}} {
				other := wood{w.level, w.seps, slices.Clone(w.kids)}
				other.kids[i].No += by.No
				other.kids[i].Keys += by.Keys
				all = append(all, other)
			}
		}
		for i := range w.seps {
			other := wood{w.level, slices.Clone(w.seps), w.kids}
			other.seps[i] = append(bytes.Clone(w.seps[i]), 0)
			if plainError(other) == api.OK {
				all = append(all, other)
			}
		}
	}
	seen := map[string]wood{}
	for _, w := range all {
		body := string(mustEncode(t, w))
		if other, ok := seen[body]; ok && !same(w, other) {
			t.Errorf("one body of %v and of %v", w, other)
		}
		seen[body] = w
	}
}

func TestP5_5NoBodyOfAnotherKind(t *testing.T) {
	for _, w := range likely() {
		body := mustEncode(t, w)
		if body[0] != api.Branch {
			t.Errorf("the body of %v begins with %d", w, body[0])
		}
		if items, err := leaf.Decode(body); err != api.ErrLeaf {
			t.Errorf("the body of %v is a leaf's of %d items", w, len(items))
		}
		if _, _, err := chain.DecodeData(body); err != api.ErrChain {
			t.Errorf("the body of %v read as one of a chain: %d", w, err)
		}
		if _, _, err := chain.DecodeList(body); err != api.ErrFrees {
			t.Errorf("the body of %v read as one of frees: %d", w, err)
		}
		if _, err := meta.Decode(body); err != api.ErrMeta {
			t.Errorf("the body of %v read as one of a head: %d", w, err)
		}
		// What makes the others' bodies begins each with its own kind; no rest makes such a body one of a branch.
		for _, kind := range []byte{api.Leaf, api.Chain, api.Frees, api.Meta} {
			body[0] = kind
			wantRefused(t, "a body of another kind", body)
		}
	}
	for _, items := range [][]api.Item{
		{{Key: []byte("a"), Value: []byte("x"), Size: 1}},
		{{Key: []byte("k"), Size: 600, First: 9}},
		{{Key: []byte("a")}, {Key: []byte("b")}},
	} {
		body, err := leaf.Encode(items)
		if err != api.OK {
			t.Fatalf("leaf.Encode: %d", err)
		}
		wantRefused(t, "a leaf's body", body)
	}
}

func TestP5_5NoBodyOfAChain(t *testing.T) {
	// But for its kind, a chain's body with this next and this data is one of a branch: of level 1, with one kid.
	data := append([]byte{0, 0, 9, 0, 0, 0}, make([]byte, 4079)...)
	body, err := chain.EncodeData(257, data)
	if err != api.OK {
		t.Fatalf("chain.EncodeData: %d", err)
	}
	wantRefused(t, "a chain's body", body)
	body[0] = api.Branch
	wantBranch(t, body, wood{1, nil, []api.Kid{kid(4085, 9)}})
}

func TestP5_5NoBodyOfFrees(t *testing.T) {
	for _, list := range [][]int{nil, {2}, {2, 5, 300}} {
		body, err := chain.EncodeList(0, list)
		if err != api.OK {
			t.Fatalf("chain.EncodeList: %d", err)
		}
		wantRefused(t, "a body of frees", body)
	}
}

func TestP5_5NoBodyOfAHead(t *testing.T) {
	for _, h := range []api.Head{{Version: 1, Count: 2}, {Version: 258, Count: 300, Root: 7, Height: 2, Keys: 1000, First: 299, Free: 3}} {
		body, err := meta.Encode(h)
		if err != api.OK {
			t.Fatalf("meta.Encode: %d", err)
		}
		wantRefused(t, "a head's body", body)
		body[0] = api.Branch
		wantRefused(t, "a head's body, but for its kind", body)
	}
}

func TestP5_6WhatIsUsed(t *testing.T) {
	for _, w := range likely() {
		body, size := mustEncode(t, w), branch.Size(w.seps)
		if len(bytes.Trim(body[size:], "\x00")) != 0 {
			t.Errorf("the body of %v has something behind its %d bytes", w, size)
		}
	}
}

// The last byte that is used changes just as the highest byte of the last kid's Keys does.
func TestP5_6TheLastByteThatIsUsed(t *testing.T) {
	for _, w := range likely() {
		size := branch.Size(w.seps)
		last := &w.kids[len(w.kids)-1]
		for _, high := range []int{0, 1, 2, 127, 128, 255} {
			last.Keys = high<<24 | 0x123456
			body := mustEncode(t, w)
			if int(body[size-1]) != high || !bytes.Equal(body[size-4:size-1], []byte{0x56, 0x34, 0x12}) {
				t.Errorf("the last bytes of %v are %x", w, body[size-4:size])
			}
		}
	}
}

// anySeps are lists of any strings: in any order, without bytes, too long.
func anySeps() [][][]byte {
	l := [][][]byte{list(""), list("", ""), list("", "", ""), list("b", "a", "b"), list("a", "a", "a", "a")}
	// The prefix grows most where all but one are left out, or the one that is unlike the others.
	for _, p := range []int{1, 126, 127, 128, 254, 255, 300, 16383, 16384} {
		l = append(l,
			list(xs(p), "a"),
			list("a", xs(p), xs(p)+"y"),
			list("", xs(p)),
			list(xs(p), xs(p)),
			list(xs(p)+"z", xs(p), "y"+xs(p)))
	}
	next := noise(59)
	for range 500 {
		var seps [][]byte
		head := string(anyString(next, 0, 130))
		for range 1 + next(9) {
			seps = append(seps, []byte(head+string(anyString(next, 0, 130))))
		}
		l = append(l, seps)
	}
	for _, w := range likely() {
		l = append(l, w.seps)
	}
	return l
}

func TestP5_7FewerAreSmaller(t *testing.T) {
	next := noise(60)
	for _, seps := range anySeps() {
		whole := branch.Size(seps)
		for i := range seps {
			less := slices.Delete(slices.Clone(seps), i, i+1)
			if n := branch.Size(less); n >= whole {
				t.Errorf("Size(%.100q) = %d, and without the one at %d %d", seps, whole, i, n)
			}
		}
		for range 20 {
			less := slices.DeleteFunc(slices.Clone(seps), func([]byte) bool { return next(2) == 0 })
			if n := branch.Size(less); len(less) < len(seps) && n >= whole {
				t.Errorf("Size(%.100q) = %d, and of %.100q %d", seps, whole, less, n)
			}
		}
	}
}

// Of a few lists all that can be left out of them.
func TestP5_7AllThatCanBeLeftOut(t *testing.T) {
	for _, text := range []string{"a aa aaa b", "m ma maa mb n", xs(127) + " " + xs(128) + " " + xs(255), "c b a c b a", "ab abc abd abcd b"} {
		seps := list(strings.Fields(text)...)
		for from := range 1 << len(seps) {
			for of := range 1 << len(seps) {
				// What of takes is taken by from too, and something more.
				if from&of == of && from != of && branch.Size(taken(seps, of)) >= branch.Size(taken(seps, from)) {
					t.Errorf("Size(%.100q) is not above Size(%.100q)", taken(seps, from), taken(seps, of))
				}
			}
		}
	}
}

// taken are the separators whose bits are set.
func taken(seps [][]byte, bits int) [][]byte {
	var l [][]byte
	for i, s := range seps {
		if bits>>i&1 == 1 {
			l = append(l, s)
		}
	}
	return l
}

func TestP5_7WhatAllBeginWithIsCountedOnce(t *testing.T) {
	for _, seps := range anySeps() {
		if len(seps) == 0 {
			continue
		}
		p := len(plainPrefix(seps))
		for _, c := range []int{0, 1, 2, 100, 126, 127, 128, 129, 255, 16383, 16384} {
			head := bytes.Repeat([]byte{'h'}, c)
			var longer [][]byte
			for _, s := range seps {
				longer = append(longer, slices.Concat(head, s))
			}
			want := branch.Size(seps) + c + len(plainV(uint64(p+c))) - len(plainV(uint64(p)))
			if n := branch.Size(longer); n != want {
				t.Errorf("Size of %d separators with %d bytes laid ahead of each = %d, not %d", len(seps), c, n, want)
			}
		}
	}
}

func TestP5_8AByte(t *testing.T) {
	next := noise(61)
	for _, w := range likely() {
		body, used := mustEncode(t, w), branch.Size(w.seps)
		for at := range body {
			switch {
			case used < 100 && at < used:
				for x := 1; x < 256; x++ {
					turn(t, w, body, at, byte(x))
				}
			case at < used+2 || at%97 == 0 || at == len(body)-1:
				turn(t, w, body, at, []byte{byte(1 + next(255)), 1 << next(8)}[next(2)])
			}
		}
	}
}

// turn asks that the body with a byte turned by x is no body, or one of another branch; then it turns it back.
func turn(t *testing.T, w wood, body []byte, at int, x byte) {
	t.Helper()
	body[at] ^= x
	back, err := decoded(body)
	if err == api.OK && same(back, w) || err != api.OK && err != api.ErrBranch {
		t.Errorf("Decode of the body of %v with the byte at %d turned: %d, %v", w, at, err, back)
	}
	body[at] ^= x
}
