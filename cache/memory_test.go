package cache_test

import (
	"slices"
	"testing"

	"coppice/api"
	"coppice/cache"
)

// byteLists are all lists of bytes in a page, by where they stand.
func byteLists(p *api.Page) []*[]byte {
	l := []*[]byte{&p.Data}
	for i := range p.Items {
		l = append(l, &p.Items[i].Key, &p.Items[i].Value)
	}
	for i := range p.Seps {
		l = append(l, &p.Seps[i])
	}
	return l
}

// spoil writes over a list, and over its spare room.
func spoil[T any](l []T, f func(x *T)) {
	l = l[:cap(l)]
	for i := range l {
		f(&l[i])
	}
}

func turn(x *byte) { *x ^= 0xff }

// spoilPage writes over all lists of a page, and over their spare room.
func spoilPage(p *api.Page) {
	for _, l := range byteLists(p) {
		spoil(*l, turn)
		spoil(append(*l, 1, 2, 3), turn)
	}
	_ = append(p.Items, api.Item{Key: []byte("spare")})
	_ = append(p.Seps, []byte("spare"))
	_ = append(p.Kids, api.Kid{No: 77})
	_ = append(p.List, 77)
	spoil(p.Items, func(it *api.Item) { *it = api.Item{Key: []byte("spoilt"), Size: -1} })
	spoil(p.Seps, func(s *[]byte) { *s = []byte("spoilt") })
	spoil(p.Kids, func(k *api.Kid) { *k = api.Kid{No: -1} })
	spoil(p.List, func(no *int) { *no = -1 })
}

// kindsImage is the image of a file with a page of each kind.
func kindsImage(t *testing.T) []byte {
	t.Helper()
	var image []byte
	for _, p := range allKinds() {
		image = append(image, encoded(t, p)...)
	}
	return image
}

// TestP13_5Spoilt: what is written over an answer, a miss's or a hit's, no later answer shows.
func TestP13_5Spoilt(t *testing.T) {
	for _, frames := range []int{1, 5, 20} {
		b := newBench(t, kindsImage(t), frames)
		for range 2 {
			for no := range allKinds() {
				for range 3 {
					p, _ := b.read(no)
					spoilPage(&p)
				}
			}
		}
		b.look()
	}
}

// TestP13_5Apart: what is written into one list of an answer no other list shows, of that answer or of one that came ahead of it or behind it.
func TestP13_5Apart(t *testing.T) {
	c := cache.New(diskOf(t, kindsImage(t)), 20)
	for no, want := range allKinds() {
		first, _ := c.Read(no)
		second, _ := c.Read(no)
		third, _ := c.Read(no)
		left := want
		left.Items, left.Seps = slices.Clone(want.Items), slices.Clone(want.Seps)
		spoiling, leaving := byteLists(&second), byteLists(&left)
		for i := range spoiling {
			spoil(*spoiling[i], turn)
			spoil(append(*spoiling[i], 1, 2, 3), turn)
			*spoiling[i], *leaving[i] = nil, nil
			if !same(second, left) {
				t.Fatalf("what is written into the list %d of the page %d is seen in another one", i, no)
			}
		}
		spoilPage(&second)
		if !same(first, want) || !same(third, want) {
			t.Errorf("what is written into one answer of the page %d is seen in another one", no)
		}
	}
}

// TestP13_5SpareRoom: what is written behind a list no list shows, from the last one to the first.
func TestP13_5SpareRoom(t *testing.T) {
	b := newBench(t, kindsImage(t), 20)
	for no, want := range allKinds() {
		for range 2 {
			p, _ := b.read(no)
			l := byteLists(&p)
			for i := len(l) - 1; i >= 0; i-- {
				spoil((*l[i])[len(*l[i]):], turn)
				_ = append(*l[i], "spare room"...)
			}
			_ = append(p.Items, api.Item{Key: []byte("spare")})
			_ = append(p.Seps, []byte("spare"))
			_ = append(p.Kids, api.Kid{No: 77})
			_ = append(p.List, 77)
			if !same(p, want) {
				t.Errorf("what is written behind the lists of the page %d is seen in them", no)
			}
		}
		b.read(no)
	}
}

// TestP13_5AnswersStay: what was told stays as it was, whatever is asked and dropped later.
func TestP13_5AnswersStay(t *testing.T) {
	b := newBench(t, kindsImage(t), 2)
	var told []api.Page
	for no := range allKinds() {
		p, _ := b.read(no)
		told = append(told, p)
	}
	held := b.c.Held()
	old := slices.Clone(held)
	for no := range allKinds() {
		p, _ := b.read(no)
		spoilPage(&p)
		b.drop(no - 1)
	}
	for no, want := range allKinds() {
		if !same(told[no], want) {
			t.Errorf("the answer of Read(%d) has changed", no)
		}
	}
	if !slices.Equal(held, old) {
		t.Errorf("the list of what was held has changed: %v, not %v", held, old)
	}
}

// TestP13_5Held: what is written over a list of what is held, or appended to it, the cache doesn't show, nor another such list.
func TestP13_5Held(t *testing.T) {
	b := newBench(t, imageOf(t, 6), 5)
	for n := range 7 {
		one, two := b.c.Held(), b.c.Held()
		wanted := slices.Clone(two)
		_ = append(one, 77)
		spoil(one, func(no *int) { *no = 99 })
		if !slices.Equal(two, wanted) {
			t.Errorf("one list of what is held shows what was written into another one")
		}
		b.look()
		b.read(n)
	}
}

// TestP13_5TwoCaches: two caches over one disk, of as many frames or not, have their own pages and their own counts.
func TestP13_5TwoCaches(t *testing.T) {
	d, leaves := filled(t, 5)
	one, two, third := cache.New(d, 2), cache.New(d, 2), cache.New(d, 3)
	for _, no := range []int{0, 1, 1, 2} {
		p, _ := one.Read(no)
		spoilPage(&p)
	}
	for _, no := range []int{3, 2} {
		if p, err := third.Read(no); err != api.OK || !same(p, leaves[no]) {
			t.Errorf("Read(%d): %s, %d", no, tell(p), err)
		}
	}
	if hits, misses := two.Counts(); len(two.Held()) != 0 || hits != 0 || misses != 0 {
		t.Errorf("a cache that was asked nothing: held %v, hits %d, misses %d", two.Held(), hits, misses)
	}
	one.Drop(2)
	third.Drop(1)
	stands := func(c *cache.Cache, held []int, hits, misses int) {
		t.Helper()
		h, m := c.Counts()
		if !slices.Equal(c.Held(), held) || h != hits || m != misses {
			t.Errorf("%v, %d, %d; not %v, %d, %d", c.Held(), h, m, held, hits, misses)
		}
	}
	stands(one, []int{1}, 1, 3)
	stands(two, nil, 0, 0)
	stands(third, []int{2, 3}, 0, 2)
	if d.Reads() != 5 {
		t.Errorf("%d Reads of the disk, not 5", d.Reads())
	}
}
