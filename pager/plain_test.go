package pager_test

import (
	"bytes"
	"fmt"
	"slices"
	"strings"
	"testing"

	"coppice/api"
	"coppice/check"
	"coppice/disk"
	"coppice/page"
	"coppice/pager"
	"coppice/pool"
	"coppice/tree"
)

// noise tells numbers from 0 on, below the one it is given; the same ones for the same seed.
func noise(seed uint64) func(n int) int {
	return func(n int) int {
		seed = seed*6364136223846793005 + 1442695040888963407
		return int((seed >> 33) % uint64(n))
	}
}

// tellTree is all that a tree says.
func tellTree(x *tree.Tree) string {
	var told strings.Builder
	fmt.Fprint(&told, x.Len(), x.Height())
	for _, n := range x.Nodes() {
		fmt.Fprintf(&told, " node %d %d %q %v %v", n.No, n.Level, n.Seps, n.Kids, n.Chains)
		for _, pair := range n.Pairs { // long values: as they stand
			fmt.Fprintf(&told, " %q %d ", pair.Key, len(pair.Value))
			told.Write(pair.Value)
		}
	}
	return told.String()
}

// tellBase is all that a base says.
func tellBase(b *pager.Base) string {
	return fmt.Sprintf("%+v %v %v %s", b.Head(), b.Free(), b.Lists(), tellTree(b.Tree()))
}

// tellFile is the same of an accepted file.
func tellFile(t *testing.T, file []byte) string {
	t.Helper()
	f, at, err := check.Open(file)
	if err != api.OK {
		t.Fatalf("the file is refused: %d at %d", err, at)
	}
	return fmt.Sprintf("%+v %v %v %s", f.Head(), f.Free(), f.Lists(), tellTree(f.Tree()))
}

// tellPool is all that a pool says.
func tellPool(p *pool.Pool) string { return fmt.Sprint(p.Count(), p.Room(), p.Free(), p.Usable()) }

// world is a disk with the base that stands on it, and its pool.
type world struct {
	d *disk.Disk
	b *pager.Base
	p *pool.Pool
}

// formatted is a world whose disk was just formatted.
func formatted(t *testing.T, cap int) *world {
	t.Helper()
	d := disk.New(cap)
	if err := pager.Format(d); err != api.OK {
		t.Fatalf("Format: %d", err)
	}
	return loaded(t, d)
}

// loaded is what a disk holds.
func loaded(t *testing.T, d *disk.Disk) *world {
	t.Helper()
	b, at, err := pager.Load(d)
	if err != api.OK || at != 0 {
		t.Fatalf("Load: %d at %d", err, at)
	}
	return &world{d, b, pool.New(b.Head().Count, d.Cap(), b.Free())}
}

// image is a disk that holds a file.
func image(t *testing.T, cap int, file []byte) *disk.Disk {
	t.Helper()
	d, err := disk.Image(cap, file)
	if err != api.OK {
		t.Fatalf("Image: %d", err)
	}
	return d
}

// again is a world apart, whose disk holds the same.
func (w *world) again(t *testing.T) *world {
	t.Helper()
	return loaded(t, image(t, w.d.Cap(), w.d.Durable()))
}

// commit makes a tree the next version.
func (w *world) commit(t *testing.T, x *tree.Tree) {
	t.Helper()
	b, err := w.b.Commit(w.d, x, w.p)
	if err != api.OK {
		t.Fatalf("Commit: %d", err)
	}
	w.b = b
}

// fill is a value of n bytes.
func fill(n, seed int) []byte {
	b := make([]byte, n)
	for i := range b {
		b[i] = byte(i*7 + i>>8 + seed)
	}
	return b
}

// with is a tree with one pair more.
func with(t *testing.T, x *tree.Tree, key string, value []byte) *tree.Tree {
	t.Helper()
	x, err := x.With([]byte(key), value)
	if err != api.OK {
		t.Fatalf("With: %d", err)
	}
	return x
}

// changed is a tree changed by noise: pairs laid in, or taken out.
func changed(x *tree.Tree, next func(int) int, changes int, sizes []int) *tree.Tree {
	for range changes {
		key := []byte{byte('a' + next(5)), byte(next(30))}
		if next(5) < 2 {
			x, _ = x.Without(key)
			continue
		}
		x, _ = x.With(key, fill(sizes[next(len(sizes))], next(256)))
	}
	return x
}

// plainGone is what P18.3 says, number by number.
func plainGone(b *pager.Base, x *tree.Tree) []int {
	gone, stay := b.Lists(), x.Numbers()
	for _, no := range b.Tree().Numbers() {
		if !slices.Contains(stay, no) {
			gone = append(gone, no)
		}
	}
	slices.Sort(gone)
	return gone
}

// plainNeed is what P18.4 says.
func plainNeed(b *pager.Base, x *tree.Tree, p *pool.Pool) int {
	gone := plainGone(b, x)
	if x.Fresh() == 0 && len(gone) == len(b.Lists()) {
		return 0
	}
	return x.Fresh() + p.Lists(x.Fresh(), gone)
}

// zeros is a page of zeros.
func zeros() []byte { return make([]byte, api.PageSize) }

// encoded is the page of a value.
func encoded(t *testing.T, p api.Page) []byte {
	t.Helper()
	b, err := page.Encode(p)
	if err != api.OK {
		t.Fatalf("%+v may not be: %d", p, err)
	}
	return b
}

// pagesOf are all pages of a tree by their numbers.
func pagesOf(t *testing.T, x *tree.Tree) map[int][]byte {
	t.Helper()
	all := map[int][]byte{}
	nodes := x.Nodes()
	var keys func(i int) int
	keys = func(i int) int {
		n := len(nodes[i].Pairs)
		for _, kid := range nodes[i].Kids {
			n += keys(kid)
		}
		return n
	}
	for _, n := range nodes {
		p := api.Page{Kind: api.Leaf}
		if n.Level > 0 {
			p = api.Page{Kind: api.Branch, Level: n.Level, Seps: n.Seps}
		}
		for _, kid := range n.Kids {
			p.Kids = append(p.Kids, api.Kid{No: nodes[kid].No, Keys: keys(kid)})
		}
		for i, pair := range n.Pairs {
			it := api.Item{Key: pair.Key, Value: pair.Value, Size: len(pair.Value)}
			if it.Size > api.MaxInline {
				it.Value, it.First = nil, n.Chains[i][0]
			}
			p.Items = append(p.Items, it)
			left := pair.Value
			for k, no := range n.Chains[i] {
				piece := api.Page{Kind: api.Chain, Data: left[:min(len(left), api.ChainData)]}
				left = left[len(piece.Data):]
				if k+1 < len(n.Chains[i]) {
					piece.Next = n.Chains[i][k+1]
				}
				all[no] = encoded(t, piece)
			}
		}
		all[n.No] = encoded(t, p)
	}
	return all
}

// plan is what a Commit is to do.
type plan struct {
	first []api.Write // ahead of the first Sync
	head  api.Write   // ahead of the second one
	base  string      // what the new base says
}

// planned is the plan of a Commit whose pool is p's twin.
func planned(t *testing.T, b *pager.Base, x *tree.Tree, twin *pool.Pool) plan {
	t.Helper()
	version, fresh := b.Head().Version+1, x.Fresh()
	nos, err := twin.Commit(fresh, plainGone(b, x), version)
	if err != api.OK {
		t.Fatalf("the pool's Commit: %d", err)
	}
	x, err = x.Numbered(nos[:fresh])
	if err != api.OK {
		t.Fatalf("Numbered: %d", err)
	}
	all, lists, free := pagesOf(t, x), nos[fresh:], twin.Free()
	h := api.Head{Version: version, Count: twin.Count(), Height: x.Height(), Keys: x.Len(), Free: len(free)}
	if nodes := x.Nodes(); len(nodes) > 0 {
		h.Root = nodes[len(nodes)-1].No
	}
	var p plan
	for _, no := range slices.Sorted(slices.Values(nos[:fresh])) {
		p.first = append(p.first, api.Write{No: no, Data: all[no]})
	}
	left := free
	for i, no := range lists {
		q := api.Page{Kind: api.Frees, List: left[:min(len(left), api.FreesPer)]}
		left = left[len(q.List):]
		if i+1 < len(lists) {
			q.Next = lists[i+1]
		}
		p.first = append(p.first, api.Write{No: no, Data: encoded(t, q)})
		h.First = lists[0]
	}
	p.first = append(p.first, api.Write{No: version % 2, Data: zeros()})
	p.head = api.Write{No: version % 2, Data: encoded(t, api.Page{Kind: api.Meta, Head: h})}
	p.base = fmt.Sprintf("%+v %v %v %s", h, free, lists, tellTree(x))
	return p
}

// sameWrites asks for just these writes that pend.
func sameWrites(t *testing.T, what string, got, want []api.Write) {
	t.Helper()
	same := func(x, y api.Write) bool { return x.No == y.No && bytes.Equal(x.Data, y.Data) }
	if !slices.EqualFunc(got, want, same) {
		var a, b []int
		for _, w := range got {
			a = append(a, w.No)
		}
		for _, w := range want {
			b = append(b, w.No)
		}
		t.Fatalf("%s: writes of the pages %v, or other bytes, not of %v", what, a, b)
	}
}
