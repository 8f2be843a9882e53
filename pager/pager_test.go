package pager_test

import (
	"bytes"
	"fmt"
	"slices"
	"testing"

	"coppice/api"
	"coppice/disk"
	"coppice/pager"
	"coppice/pool"
	"coppice/tree"
)

func TestExamples(t *testing.T) {
	d := disk.New(9)
	if err := pager.Format(d); err != api.OK || d.Done() != 5 {
		t.Fatalf("Format: %d, %d Writes and Syncs", err, d.Done())
	}
	w := loaded(t, d)
	if h := w.b.Head(); h != (api.Head{Version: 1, Count: 2}) {
		t.Errorf("a new file: %+v", h)
	}
	for _, x := range []struct {
		value string
		gone  []int
		need  int
		head  api.Head
		free  []int
		lists []int
	}{
		{"x", nil, 1, api.Head{Version: 2, Count: 3, Root: 2, Height: 1, Keys: 1}, nil, nil},
		{"y", []int{2}, 2, api.Head{Version: 3, Count: 5, Root: 3, Height: 1, Keys: 1, First: 4, Free: 1}, []int{2}, []int{4}},
		{"z", []int{3, 4}, 2, api.Head{Version: 4, Count: 6, Root: 2, Height: 1, Keys: 1, First: 5, Free: 2}, []int{3, 4}, []int{5}},
	} {
		u := with(t, w.b.Tree(), "a", []byte(x.value))
		if gone := w.b.Gone(u); !slices.Equal(gone, x.gone) {
			t.Errorf("%s: gone %v", x.value, gone)
		}
		if need := w.b.Need(u, w.p); need != x.need {
			t.Errorf("%s: need %d", x.value, need)
		}
		done := d.Done()
		w.commit(t, u)
		if d.Done() != done+x.need+4 {
			t.Errorf("%s: %d Writes and Syncs", x.value, d.Done()-done)
		}
		if w.b.Head() != x.head || !slices.Equal(w.b.Free(), x.free) || !slices.Equal(w.b.Lists(), x.lists) {
			t.Errorf("%s: %s", x.value, tellBase(w.b))
		}
		if tellFile(t, d.Durable()) != tellBase(w.b) {
			t.Errorf("%s: the file says something else than the base", x.value)
		}
	}
}

// TestP18_1Format: write by write, whatever the disk holds.
func TestP18_1Format(t *testing.T) {
	head := encoded(t, api.Page{Kind: api.Meta, Head: api.Head{Version: 1, Count: 2}})
	blank := []api.Write{{No: 0, Data: zeros()}, {No: 1, Data: zeros()}}
	for pages := range 5 {
		file := bytes.Repeat([]byte{0xa7}, pages*api.PageSize)
		for k := 1; k <= 6; k++ {
			d := image(t, 5, file)
			d.Arm(k)
			want, pends := api.ErrPower, [][]api.Write{blank[:1], blank, blank, {{No: 1, Data: head}}, {{No: 1, Data: head}}, nil}[k-1]
			if k == 6 {
				want = api.OK
			}
			if err := pager.Format(d); err != want {
				t.Fatalf("%d pages, the power fails at %d: %d", pages, k, err)
			}
			if done := min(k, 5); d.Done() != done {
				t.Errorf("%d pages, %d: %d Writes and Syncs", pages, k, d.Done())
			}
			sameWrites(t, fmt.Sprint(pages, " pages, the power fails at ", k), d.Pending(), pends)
		}
	}
	d := disk.New(2)
	d.Arm(1)
	pager.Format(d)
	if err := pager.Format(d); err != api.ErrPower || d.Done() != 1 {
		t.Errorf("with the power off: %d", err)
	}
}

// TestP18_9Format: behind it the file is accepted, and says no pair, whatever was there.
func TestP18_9Format(t *testing.T) {
	next := noise(189)
	w := formatted(t, 60)
	w.commit(t, changed(w.b.Tree(), next, 40, []int{5, 600}))
	w.commit(t, changed(w.b.Tree(), next, 40, []int{5, 600}))
	dust := make([]byte, 5*api.PageSize)
	for i := range dust {
		dust[i] = byte(next(256))
	}
	for _, file := range [][]byte{nil, dust[:4096], dust[:8192], dust, w.d.Durable(), w.d.Durable()[4096:]} {
		for _, cap := range []int{max(2, len(file)/4096), 70, api.MaxPages} {
			d := image(t, cap, file)
			d.Write(0, dust[:4096])
			if err := pager.Format(d); err != api.OK {
				t.Fatalf("Format: %d", err)
			}
			if d.Pages() != max(2, len(file)/4096) || len(d.Pending()) != 0 {
				t.Errorf("%d pages, %d writes pend", d.Pages(), len(d.Pending()))
			}
			b := loaded(t, d).b
			if want := tellFile(t, d.Durable()); tellBase(b) != want || b.Head() != (api.Head{Version: 1, Count: 2}) || b.Tree().Len() != 0 {
				t.Errorf("%s", tellBase(b))
			}
		}
	}
}

// TestP18_2Load: what is refused, where, and that nothing is written.
func TestP18_2Load(t *testing.T) {
	next := noise(182)
	w := formatted(t, 300)
	for range 4 {
		w.commit(t, changed(w.b.Tree(), next, 60, []int{5, 400, 512, 513, 5000}))
	}
	file := w.d.Durable()
	load := func(what string, d *disk.Disk, reads, at int, err api.Errno) {
		t.Helper()
		before, done, pending := d.Reads(), d.Done(), len(d.Pending())
		b, i, e := pager.Load(d)
		if i != at || e != err || (b == nil) != (err != api.OK) {
			t.Errorf("%s: %d at %d, not %d at %d", what, e, i, err, at)
		}
		if d.Reads() != before+reads || d.Done() != done || len(d.Pending()) != pending {
			t.Errorf("%s: %d Reads", what, d.Reads()-before)
		}
		if b != nil && tellBase(b) != tellFile(t, file) {
			t.Errorf("%s: the base says something else", what)
		}
	}
	pages := len(file) / api.PageSize
	load("whole", image(t, pages, file), pages, 0, api.OK)
	load("more room", image(t, api.MaxPages, file), pages, 0, api.OK)
	load("no page", disk.New(9), 0, 0, api.ErrFile)
	load("one page", image(t, 9, file[:4096]), 1, 0, api.ErrFile)
	load("zeros", image(t, 9, make([]byte, 5*4096)), 5, 0, api.ErrNoHead)
	load("cut", image(t, pages, file[:len(file)-4096]), pages-1, int(w.b.Head().Version)%2, api.ErrCount)
	for _, no := range []int{w.b.Head().Root, w.b.Lists()[0], w.b.Tree().Numbers()[0]} {
		d := image(t, pages, file)
		d.Rot(no, 99, 3)
		load("rot", d, pages, no, api.ErrSum)
	}
	d := image(t, pages, file[:len(file)-4096])
	d.Write(pages-1, file[len(file)-4096:])
	load("the last page pends", d, pages, 0, api.OK)
	d.Arm(1)
	d.Sync()
	load("the power is off", d, 0, 0, api.ErrPower)
	d = disk.New(9)
	d.Arm(1)
	d.Sync()
	load("no page, and the power is off", d, 0, 0, api.ErrFile)
}

// TestP18_3Gone: the numbers that the base has and the tree has not, with the pages of frees.
func TestP18_3Gone(t *testing.T) {
	next := noise(183)
	w := formatted(t, 3000)
	for range 12 {
		x := changed(w.b.Tree(), next, next(40), []int{5, 400, 512, 513, 5000})
		for _, y := range []*tree.Tree{x, w.b.Tree(), tree.Empty(), changed(tree.Empty(), next, 20, []int{5, 600})} {
			if gone, want := w.b.Gone(y), plainGone(w.b, y); !slices.Equal(gone, want) {
				t.Fatalf("gone %v, not %v", gone, want)
			}
			if need, want := w.b.Need(y, w.p), plainNeed(w.b, y, w.p); need != want {
				t.Fatalf("need %d, not %d", need, want)
			}
		}
		w.commit(t, x)
	}
	if w.b.Need(w.b.Tree(), w.p) != 0 || w.b.Need(tree.Empty(), w.p) == 0 {
		t.Error("the base's own tree needs pages, or the empty one none")
	}
}

// TestP18_5Nothing: of the base's own tree nothing is done, whatever the power and the version.
func TestP18_5Nothing(t *testing.T) {
	next := noise(185)
	w := formatted(t, 300)
	w.commit(t, changed(w.b.Tree(), next, 30, []int{5, 600}))
	w.commit(t, changed(w.b.Tree(), next, 30, []int{5, 600}))
	same := with(t, w.b.Tree(), "a", []byte("x"))
	same, _ = same.Without([]byte("a")) // as many pairs as ahead, but new nodes
	if w.b.Need(same, w.p) == 0 {
		t.Error("new nodes need no page")
	}
	empty := formatted(t, 5)
	for _, w := range []*world{w, empty, loaded(t, w.d)} {
		w.d.Arm(1)
		done, was := w.d.Done(), tellPool(w.p)
		for _, x := range []*tree.Tree{w.b.Tree(), unlike(t, w.b.Tree())} {
			b, err := w.b.Commit(w.d, x, w.p)
			if b != w.b || err != api.OK || w.d.Done() != done || tellPool(w.p) != was {
				t.Errorf("%d, %d Writes and Syncs", err, w.d.Done()-done)
			}
		}
	}
}

// unlike is a tree that is made anew of the same nodes, with their numbers.
func unlike(t *testing.T, x *tree.Tree) *tree.Tree {
	t.Helper()
	y, err := tree.Build(x.Nodes())
	if err != api.OK {
		t.Fatalf("Build: %d", err)
	}
	return y
}

// atVersion is a world of one leaf whose head has this version.
func atVersion(t *testing.T, version int) *world {
	t.Helper()
	leaf := encoded(t, api.Page{Kind: api.Leaf, Items: []api.Item{{Key: []byte("a"), Value: []byte("x"), Size: 1}}})
	head := encoded(t, api.Page{Kind: api.Meta, Head: api.Head{Version: version, Count: 3, Root: 2, Height: 1, Keys: 1}})
	slots := [][]byte{zeros(), zeros()}
	slots[version%2] = head
	return loaded(t, image(t, 5, slices.Concat(slots[0], slots[1], leaf)))
}

// TestP18_5Versions: the last version has no next one.
func TestP18_5Versions(t *testing.T) {
	w := atVersion(t, api.MaxVersion)
	done, was := w.d.Done(), tellPool(w.p)
	if b, err := w.b.Commit(w.d, w.b.Tree(), w.p); b != w.b || err != api.OK {
		t.Errorf("its own tree: %d", err)
	}
	great := with(t, w.b.Tree(), "b", fill(9000, 1))
	for _, x := range []*tree.Tree{with(t, w.b.Tree(), "b", nil), tree.Empty(), great} { // for the last one there is no room
		if b, err := w.b.Commit(w.d, x, w.p); b != nil || err != api.ErrVersions || w.d.Done() != done || tellPool(w.p) != was {
			t.Errorf("%d, %d Writes and Syncs", err, w.d.Done()-done)
		}
	}
	w = atVersion(t, api.MaxVersion-1)
	w.commit(t, with(t, w.b.Tree(), "b", nil))
	if w.b.Head().Version != api.MaxVersion || tellFile(t, w.d.Durable()) != tellBase(w.b) {
		t.Errorf("%s", tellBase(w.b))
	}
	if b, err := w.b.Commit(w.d, tree.Empty(), w.p); b != nil || err != api.ErrVersions {
		t.Errorf("behind the last version: %d", err)
	}
}

// TestP18_5Full: a commit for which there is just room, and one page less.
func TestP18_5Full(t *testing.T) {
	for size := range 6 {
		w := formatted(t, 9)
		w.commit(t, with(t, w.b.Tree(), "a", []byte("x")))
		w.commit(t, with(t, w.b.Tree(), "a", []byte("y")))
		x := with(t, w.b.Tree(), "b", fill(size*4085, 3))
		need, room := w.b.Need(x, w.p), w.p.Room()
		done, was := w.d.Done(), tellPool(w.p)
		b, err := w.b.Commit(w.d, x, w.p)
		if need <= room {
			if err != api.OK || tellFile(t, w.d.Durable()) != tellBase(b) || w.d.Done() != done+need+4 {
				t.Errorf("need %d, room %d: %d", need, room, err)
			}
			continue
		}
		if b != nil || err != api.ErrFull || w.d.Done() != done || tellPool(w.p) != was {
			t.Errorf("need %d, room %d: %d, %d Writes and Syncs", need, room, err, w.d.Done()-done)
		}
	}
}

// steps asks a Commit write by write: where the power fails at a Sync, all that was written ahead of it pends.
func steps(t *testing.T, what string, w *world, x *tree.Tree) {
	t.Helper()
	need := w.b.Need(x, w.p)
	want := planned(t, w.b, x, pool.New(w.b.Head().Count, w.d.Cap(), w.b.Free()))
	if len(want.first) != need+1 {
		t.Fatalf("%s: need %d, but %d pages are to be written", what, need, len(want.first)-1)
	}
	for _, at := range []struct {
		k     int
		pends []api.Write
	}{{1, want.first[:1]}, {need + 1, want.first}, {need + 2, want.first}, {need + 3, []api.Write{want.head}}, {need + 4, []api.Write{want.head}}} {
		c := w.again(t)
		c.d.Arm(at.k)
		if b, err := c.b.Commit(c.d, x, c.p); b != nil || err != api.ErrPower || c.d.Done() != at.k {
			t.Fatalf("%s: the power fails at %d of %d: %d, %d Writes and Syncs", what, at.k, need+4, err, c.d.Done())
		}
		sameWrites(t, fmt.Sprintf("%s, up to %d of %d", what, at.k, need+4), c.d.Pending(), at.pends)
	}
	c := w.again(t)
	b, err := c.b.Commit(c.d, x, c.p)
	if err != api.OK || c.d.Done() != need+4 || len(c.d.Pending()) > 0 {
		t.Fatalf("%s: %d, %d Writes and Syncs", what, err, c.d.Done())
	}
	if tellBase(b) != want.base || tellFile(t, c.d.Durable()) != want.base || tellBase(loaded(t, c.d).b) != want.base {
		t.Fatalf("%s: the new base is not what was asked for", what)
	}
}

// TestP18_5Steps: trees of all heights up to 3, with chains and without, growing and shrinking, to nothing too.
func TestP18_5Steps(t *testing.T) {
	for i, sizes := range [][]int{{0, 3, 40}, {400, 512, 500}, {0, 513, 4085, 4086, 9000}, {262144, 5, 5, 5, 5, 5, 5, 5}} {
		t.Run(fmt.Sprint(sizes), func(t *testing.T) {
			t.Parallel()
			next := noise(uint64(1850 + i))
			w := formatted(t, 4000)
			for round := range 8 {
				x := changed(w.b.Tree(), next, 1+next([]int{2, 60, 12}[round%3]), sizes)
				switch round {
				case 4:
					x = tree.Empty()
				case 6:
					x = changed(tree.Empty(), next, 20, sizes) // of no number
				}
				if w.b.Need(x, w.p) > 0 {
					steps(t, fmt.Sprint("round ", round), w, x)
				}
				w.commit(t, x)
			}
		})
	}
}

// high is a tree of three levels: its keys are long, and few share much.
func high(next func(int) int, pairs int) *tree.Tree {
	x := tree.Empty()
	for range pairs {
		k := next(90)
		key := slices.Concat([]byte{byte(k * 37), byte(k)}, bytes.Repeat([]byte("x"), 252), []byte{byte(next(30))})
		x, _ = x.With(key, fill(512, next(256)))
	}
	return x
}

// TestP18_5High: a tree with branches above branches, and a change that leaves most of it.
func TestP18_5High(t *testing.T) {
	t.Parallel()
	next := noise(3)
	w := formatted(t, 2000)
	x := high(next, 300)
	if x.Height() < 3 {
		t.Fatalf("height %d", x.Height())
	}
	steps(t, "all at once", w, x)
	w.commit(t, x)
	for range 3 {
		x := with(t, w.b.Tree(), string([]byte{byte(next(256)), 7}), fill(600, 4))
		steps(t, "one pair", w, x)
		w.commit(t, x)
	}
}

// TestP18_5Lists: so many numbers are free that there are several pages of frees, and the last of them is empty, or just full.
func TestP18_5Lists(t *testing.T) {
	t.Parallel()
	value := fill(262144, 1) // 65 pages
	w := formatted(t, 6000)
	x := w.b.Tree()
	for i := range 33 {
		x = with(t, x, fmt.Sprint("k", i), value)
	}
	w.commit(t, x)
	seen := map[int]int{}
	for _, out := range []int{16, 32} {
		y := w.b.Tree()
		for i := range out {
			y, _ = y.Without([]byte(fmt.Sprint("k", i)))
		}
		y = with(t, y, "l", fill(9000, 2))
		steps(t, fmt.Sprint(out, " are taken out"), w, y)
		c := w.again(t)
		c.commit(t, y)
		seen[len(c.b.Lists())]++
	}
	full, empty := 0, 0
	for _, n := range []int{1020, 1021, 1022, 1023, 2042, 2043, 2044} {
		for _, size := range []int{1, 600} {
			c := sparse(t, n)
			y := with(t, c.b.Tree(), "a", fill(size, 9))
			steps(t, fmt.Sprint(n, " free, ", size, " bytes"), c, y)
			c.commit(t, y)
			lists := len(c.b.Lists())
			seen[lists]++
			switch len(c.b.Free()) {
			case lists * api.FreesPer:
				full++
			case (lists - 1) * api.FreesPer:
				empty++
			}
		}
	}
	if len(seen) < 3 || full == 0 || empty == 0 {
		t.Errorf("only these numbers of pages of frees come: %v; the last one is full %d times, empty %d times", seen, full, empty)
	}
}

// sparse is a world of one leaf in which so many numbers are free, with as few pages of frees as can list them.
func sparse(t *testing.T, n int) *world {
	t.Helper()
	lists := (n + api.FreesPer - 1) / api.FreesPer
	h := api.Head{Version: 2, Count: 3 + lists + n, Root: 2, Height: 1, Keys: 1, First: 3, Free: n}
	file := slices.Concat(encoded(t, api.Page{Kind: api.Meta, Head: h}), zeros(), encoded(t, api.Page{Kind: api.Leaf, Items: []api.Item{{Key: []byte("a"), Value: []byte("x"), Size: 1}}}))
	no := 3 + lists
	for i := range lists {
		p := api.Page{Kind: api.Frees, Next: 4 + i}
		if i == lists-1 {
			p.Next = 0
		}
		for ; no < h.Count && len(p.List) < api.FreesPer; no++ {
			p.List = append(p.List, no)
		}
		file = append(file, encoded(t, p)...)
	}
	return loaded(t, image(t, h.Count+50, append(file, make([]byte, n*api.PageSize)...)))
}
