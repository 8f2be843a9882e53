package hands_test

import (
	"bytes"
	"slices"
	"testing"

	"coppice/api"
	"coppice/check"
	"coppice/disk"
	"coppice/hands"
	"coppice/page"
	"coppice/pager"
	"coppice/pool"
	"coppice/tree"
)

// noise tells numbers from 0 on, below the one it is given; the same ones for the same seed.
func noise(seed uint64) func(n int) int {
	return func(n int) int {
		seed = seed*6364136223846793005 + 1442695040888963407
		return int((seed >> 33) % uint64(n))
	}
}

// verdict is what a file is judged: the page and the error of its first fault.
type verdict struct {
	at  int
	err api.Errno
}

// plainKinds tells the kinds page by page.
func plainKinds(b []byte, n int) ([]int, api.Errno) {
	switch at := len(b); {
	case n < 1 || n > 16:
		return nil, api.ErrHands
	case at%4096 > 0 || at < 8192 || at > 524287*4096:
		return nil, api.ErrFile
	}
	var l []int
	for at := 0; at < len(b); at += 4096 {
		p, err := page.Decode(b[at : at+4096])
		if err != api.OK {
			p.Kind = 0
		}
		l = append(l, p.Kind)
	}
	return l, api.OK
}

// headOf is the head of a file that has passed the first three steps of chapter 15.
func headOf(b []byte) (api.Head, int, bool) {
	if _, err := plainKinds(b, 1); err != api.OK {
		return api.Head{}, 0, false
	}
	h, slot := api.Head{}, -1
	for no := range 2 {
		p, err := page.Decode(b[no*4096 : (no+1)*4096])
		if err == api.OK && p.Kind == api.Meta && p.Head.Version%2 == no && p.Head.Version > h.Version {
			h, slot = p.Head, no
		}
	}
	return h, slot, slot >= 0 && h.Count*4096 <= len(b)
}

// plainCheck is P16.2 word by word.
func plainCheck(b []byte, n, limit int) verdict {
	if n < 1 || n > 16 || limit < 0 {
		return verdict{0, api.ErrHands}
	}
	at, err := check.Check(b)
	if h, _, first := headOf(b); first && h.Count > limit {
		return verdict{0, api.ErrMore}
	}
	return verdict{at, err}
}

// kindsAre asks for the kinds of a file's pages.
func kindsAre(t *testing.T, what string, b []byte, n int, want []int, err api.Errno) {
	t.Helper()
	room := bytes.Clone(b[:cap(b)])
	if l, e := hands.Kinds(b, n); e != err || !slices.Equal(l, want) {
		t.Errorf("%s: Kinds of %d bytes by %d hands: %v, %d, not %v, %d", what, len(b), n, l, e, want, err)
	}
	if !bytes.Equal(b[:cap(b)], room) {
		t.Fatalf("%s: Kinds changed what it was handed", what)
	}
}

// checkIs asks how a file is judged.
func checkIs(t *testing.T, what string, b []byte, n, limit int, want verdict) {
	t.Helper()
	room := bytes.Clone(b[:cap(b)])
	if at, err := hands.Check(b, n, limit); (verdict{at, err}) != want {
		t.Errorf("%s: Check of %d bytes, %d hands, limit %d: %d at %d, not %d at %d", what, len(b), n, limit, err, at, want.err, want.at)
	}
	if !bytes.Equal(b[:cap(b)], room) {
		t.Fatalf("%s: Check changed what it was handed", what)
	}
}

// file are the bytes of pages; one of no kind is zeros.
func file(t *testing.T, pages ...api.Page) []byte {
	t.Helper()
	var b []byte
	for no, p := range pages {
		q, err := make([]byte, 4096), api.OK
		if p.Kind != 0 {
			q, err = page.Encode(p)
		}
		if err != api.OK {
			t.Fatalf("page %d may not be: %d", no, err)
		}
		b = append(b, q...)
	}
	return b
}

// broken is a file with a byte turned in each of these pages.
func broken(b []byte, nos ...int) []byte {
	b = bytes.Clone(b)
	for _, no := range nos {
		b[no*4096+9] ^= 16
	}
	return b
}

func metaOf(h api.Head) api.Page { return api.Page{Kind: api.Meta, Head: h} }

func freesOf(l ...int) api.Page { return api.Page{Kind: api.Frees, List: l} }

// leafOf is a leaf of a key each, with short values.
func leafOf(keys string) api.Page {
	p := api.Page{Kind: api.Leaf}
	for i := range keys {
		p.Items = append(p.Items, api.Item{Key: []byte{keys[i]}, Value: []byte("v"), Size: 1})
	}
	return p
}

// whole is an accepted file of version 3: a leaf 2 with the chain 3, the list 4 of 5.
func whole(t *testing.T) []byte {
	t.Helper()
	leaf := leafOf("ab")
	leaf.Items = append(leaf.Items, api.Item{Key: []byte("c"), Size: 600, First: 3})
	return file(t, api.Page{}, metaOf(api.Head{Version: 3, Count: 6, Root: 2, Height: 1, Keys: 3, First: 4, Free: 1}),
		leaf, api.Page{Kind: api.Chain, Data: bytes.Repeat([]byte{7}, 600)}, freesOf(5), api.Page{})
}

// formatted is what pager.Format makes.
func formatted(t *testing.T) []byte {
	t.Helper()
	d := disk.New(2)
	if err := pager.Format(d); err != api.OK {
		t.Fatalf("Format: %d", err)
	}
	return d.Durable()
}

// grown is the file of a few commits by noise: pairs laid in and taken out, long values among them.
func grown(t *testing.T, next func(int) int, commits, pairs int, sizes ...int) []byte {
	t.Helper()
	d := disk.New(5000)
	pager.Format(d)
	b, _, err := pager.Load(d)
	if err != api.OK {
		t.Fatalf("Load: %d", err)
	}
	p := pool.New(b.Head().Count, d.Cap(), b.Free())
	for range commits {
		x := changed(b.Tree(), next, pairs, sizes)
		if b, err = b.Commit(d, x, p); err != api.OK {
			t.Fatalf("Commit: %d", err)
		}
	}
	return d.Durable()
}

// changed is a tree with some more pairs, and without some.
func changed(x *tree.Tree, next func(int) int, pairs int, sizes []int) *tree.Tree {
	for range pairs {
		key := []byte{byte(next(9)), byte(next(40))}
		if next(4) == 0 {
			x, _ = x.Without(key)
			continue
		}
		x, _ = x.With(key, bytes.Repeat([]byte{byte(next(256))}, sizes[next(len(sizes))]))
	}
	return x
}

// woods are accepted files of all heights up to 3, with free pages and chains and without.
func woods(t *testing.T) [][]byte {
	t.Helper()
	next := noise(16)
	return [][]byte{
		formatted(t), whole(t), slices.Concat(whole(t), bytes.Repeat([]byte{5}, 3*4096)),
		grown(t, next, 1, 3, 10), grown(t, next, 5, 3, 10, 600), grown(t, next, 3, 60, 512, 400),
		grown(t, next, 4, 30, 0, 513, 5000), grown(t, next, 2, 200, 500), grown(t, next, 9, 40, 512, 9000),
	}
}
