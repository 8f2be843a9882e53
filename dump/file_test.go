package dump_test

import (
	"fmt"
	"maps"
	"slices"
	"testing"

	"coppice/api"
	"coppice/check"
	"coppice/disk"
	"coppice/dump"
	"coppice/page"
	"coppice/store"
)

// fileIs asks what File answers.
func fileIs(t *testing.T, what string, b []byte, text string, at int, err api.Errno) {
	t.Helper()
	if got, no, e := dump.File(b); got != text || no != at || e != err {
		t.Errorf("%s: File is %s, %d, %d, not %s, %d, %d", what, shown(got), no, e, shown(text), at, err)
	}
}

// asChecked asks whether File refuses what check.Open refuses, and where, and tells the error.
func asChecked(t *testing.T, what string, b []byte) api.Errno {
	t.Helper()
	f, at, err := check.Open(b)
	text := ""
	if err == api.OK {
		m := map[string]string{}
		for _, n := range f.Tree().Nodes() {
			for _, p := range n.Pairs {
				m[string(p.Key)] = string(p.Value)
			}
		}
		text = plainText(pairsOf(m))
	}
	fileIs(t, what, b, text, at, err)
	return err
}

// pages are pages one behind the other; a page of no kind is one of zeros.
func pages(t *testing.T, l ...api.Page) []byte {
	t.Helper()
	var file []byte
	for _, p := range l {
		b := make([]byte, api.PageSize)
		if p.Kind != 0 {
			var err api.Errno
			if b, err = page.Encode(p); err != api.OK {
				t.Fatalf("Encode: %d", err)
			}
		}
		file = append(file, b...)
	}
	return file
}

func metaOf(h api.Head) api.Page { return api.Page{Kind: api.Meta, Head: h} }

// laid is a file by hand: a leaf with three keys, one value in a chain of two pages, a page of frees, and a free one.
func laid(t *testing.T) []byte {
	t.Helper()
	long := []byte(fill(5000, 7))
	items := []api.Item{{Key: []byte("a"), Value: []byte{1}, Size: 1}, {Key: []byte("b")}, {Key: []byte("c"), Size: 5000, First: 4}}
	return pages(t,
		metaOf(api.Head{Version: 2, Count: 7, Root: 2, Height: 1, Keys: 3, First: 5, Free: 1}),
		metaOf(api.Head{Version: 1, Count: 2}),
		api.Page{Kind: api.Leaf, Items: items},
		api.Page{Kind: api.Chain, Data: long[api.ChainData:]},
		api.Page{Kind: api.Chain, Next: 3, Data: long[:api.ChainData]},
		api.Page{Kind: api.Frees, List: []int{6}},
		api.Page{})
}

// broken is a file with a byte turned in each of these pages.
func broken(b []byte, nos ...int) []byte {
	b = slices.Clone(b)
	for _, no := range nos {
		b[no*api.PageSize+9] ^= 0x10
	}
	return b
}

// life is a store over a disk of its own, and the map that it is to say.
type life struct {
	t *testing.T
	d *disk.Disk
	s *store.Store
	m map[string]string
}

func newLife(t *testing.T) *life {
	t.Helper()
	d := disk.New(4000)
	if err := store.Format(d); err != api.OK {
		t.Fatalf("Format: %d", err)
	}
	s, _, err := store.Open(d, 8)
	if err != api.OK {
		t.Fatalf("Open: %d", err)
	}
	return &life{t: t, d: d, s: s, m: map[string]string{}}
}

func (l *life) put(key, value string) {
	l.s.Put([]byte(key), []byte(value))
	l.m[key] = value
}

func (l *life) drop(key string) {
	l.s.Delete([]byte(key))
	delete(l.m, key)
}

// commit makes what was put durable, and answers the file.
func (l *life) commit() []byte {
	l.t.Helper()
	if err := l.s.Commit(); err != api.OK {
		l.t.Fatalf("Commit: %d", err)
	}
	return l.d.Durable()
}

// someKey is one of n keys.
func someKey(next func(int) int, n int) string {
	i := next(n)
	return fmt.Sprintf("key %03d %s", i, fill(i%40, i))
}

// someValue is a value by noise, in its leaf or in a chain.
func someValue(next func(int) int) string {
	return fill([]int{0, 1, 30, 200, 512, 513, 4085, 4086, 9000}[next(9)], next(256))
}

// grown is the file of a store in which pairs by noise were put.
func grown(t *testing.T, seed uint64, n int) []byte {
	t.Helper()
	l, next := newLife(t), noise(seed)
	for range n {
		l.put(someKey(next, 300), someValue(next))
	}
	return l.commit()
}

// TestP20_4Examples: the chapter's, and check's.
func TestP20_4Examples(t *testing.T) {
	fileIs(t, "none", nil, "", 0, api.ErrFile)
	fileIs(t, "ten bytes", make([]byte, 10), "", 0, api.ErrFile)
	fileIs(t, "zeros", make([]byte, 2*api.PageSize), "", 0, api.ErrNoHead)
	fileIs(t, "formatted", newLife(t).d.Durable(), "coppice 0\n", 0, api.OK)
	leaf := api.Page{Kind: api.Leaf, Items: []api.Item{{Key: []byte("a"), Value: []byte("x"), Size: 1}}}
	h := api.Head{Version: 2, Count: 3, Root: 2, Height: 1, Keys: 1}
	fileIs(t, "one pair", pages(t, metaOf(h), api.Page{}, leaf), "coppice 1\n61 78\n", 0, api.OK)
	fileIs(t, "the same in slot 1", pages(t, api.Page{}, metaOf(h), leaf), "", 0, api.ErrNoHead)
	h.Height = 2
	fileIs(t, "the height", pages(t, metaOf(h), api.Page{}, leaf), "", 2, api.ErrDepth)
	h.Height, h.Keys = 1, 2
	fileIs(t, "the keys", pages(t, metaOf(h), api.Page{}, leaf), "", 0, api.ErrKeys)
	h.Keys, h.Count = 1, 4
	fileIs(t, "a loose page", pages(t, metaOf(h), api.Page{}, leaf, api.Page{}), "", 3, api.ErrLoose)
	h = api.Head{Version: 3, Count: 9}
	fileIs(t, "pages are missing", pages(t, api.Page{}, metaOf(h), leaf), "", 1, api.ErrCount)
}

// TestP20_4Laid: a file by hand, and the same broken in each of its pages.
func TestP20_4Laid(t *testing.T) {
	b := laid(t)
	text := "coppice 3\n61 01\n62 -\n63 " + plainHex([]byte(fill(5000, 7))) + "\n"
	fileIs(t, "whole", b, text, 0, api.OK)
	fileIs(t, "the other slot is broken", broken(b, 1), text, 0, api.OK)
	fileIs(t, "a free page is broken", broken(b, 6), text, 0, api.OK)
	fileIs(t, "more behind it", append(slices.Clone(b), b...), text, 0, api.OK)
	fileIs(t, "the head is broken: the older one counts", broken(b, 0, 2, 3, 4, 5), "coppice 0\n", 0, api.OK)
	fileIs(t, "both heads are broken", broken(b, 0, 1), "", 0, api.ErrNoHead)
	for no := 2; no <= 5; no++ {
		fileIs(t, "a page is broken", broken(b, no), "", no, api.ErrSum)
	}
	for size := range len(b) {
		if size%api.PageSize < 2 || size%api.PageSize > api.PageSize-2 {
			asChecked(t, "cut off", b[:size:size])
		}
	}
}

// TestP20_4Any: files of stores, whole and broken by noise, as check.Open judges them.
func TestP20_4Any(t *testing.T) {
	t.Parallel()
	next := noise(204)
	seen := map[api.Errno]int{}
	for i := range 60 {
		b := grown(t, uint64(i), next(150))
		seen[asChecked(t, "whole", b)]++
		for range 4 {
			spoilt := slices.Clone(b)
			if from := next(len(b)); next(3) > 0 {
				spoilt[from] ^= byte(1 + next(255))
			} else {
				no, other := next(len(b)/api.PageSize), next(len(b)/api.PageSize)
				copy(spoilt[no*api.PageSize:(no+1)*api.PageSize], b[other*api.PageSize:])
			}
			seen[asChecked(t, "broken", spoilt)]++
		}
	}
	if seen[api.OK] < 60 || seen[api.ErrSum] == 0 || len(seen) < 4 {
		t.Errorf("only these errors come: %v", seen)
	}
}

// detour lets a store come to a map by a way of its own: in any order, with keys put and dropped again, values changed, Commits, Rollbacks and views between.
func detour(t *testing.T, m map[string]string, seed uint64) []byte {
	t.Helper()
	l, next := newLife(t), noise(seed)
	names := slices.Sorted(maps.Keys(m))
	for range next(3) * len(names) {
		switch next(12) {
		case 0:
			l.commit()
		case 1:
			l.commit()
			l.s.Put([]byte("taken back"), []byte("x"))
			l.s.Rollback()
		case 2:
			l.s.View()
		case 3, 4, 5:
			l.drop(someKey(next, 300))
		default:
			l.put(someKey(next, 300), someValue(next))
		}
	}
	for _, key := range slices.Sorted(maps.Keys(l.m)) {
		if _, is := m[key]; !is {
			l.drop(key)
		}
	}
	from := next(len(names) + 1)
	for _, key := range slices.Concat(names[from:], names[:from]) {
		if next(9) == 0 {
			l.commit()
		}
		l.put(key, m[key])
	}
	return l.commit()
}

// TestP20_7Same: files that say one map, by unlike ways, have one text: the map's.
func TestP20_7Same(t *testing.T) {
	t.Parallel()
	next := noise(207)
	unlike := 0
	for i := range 12 {
		m := map[string]string{}
		for range next(120) {
			m[someKey(next, 300)] = someValue(next)
		}
		text := plainText(pairsOf(m))
		var ahead []byte
		for way := range 4 {
			b := detour(t, m, uint64(10*i+way))
			fileIs(t, fmt.Sprint("map ", i, ", way ", way), b, text, 0, api.OK)
			if way > 0 && !slices.Equal(b, ahead) {
				unlike++
			}
			ahead = b
		}
	}
	if unlike < 12 {
		t.Errorf("only %d files are unlike the one ahead of them", unlike)
	}
}

// TestP20_7Unlike: of the files along a store's life two have one text just if they say one map.
func TestP20_7Unlike(t *testing.T) {
	t.Parallel()
	next := noise(2070)
	l := newLife(t)
	texts := map[string]map[string]string{}
	again := 0
	for range 250 {
		key := fmt.Sprint("k", next(4))
		if next(2) == 0 {
			l.put(key, fill([]int{0, 1, 600}[next(3)], next(2)))
		} else {
			l.drop(key)
		}
		text, _, err := dump.File(l.commit())
		if err != api.OK || text != plainText(pairsOf(l.m)) {
			t.Fatalf("%s, %d", shown(text), err)
		}
		if m, is := texts[text]; is {
			again++
			if !maps.Equal(m, l.m) {
				t.Errorf("two maps have the text %s", shown(text))
			}
		}
		texts[text] = maps.Clone(l.m)
	}
	if again < 10 || len(texts) < 50 {
		t.Errorf("%d texts, %d came again", len(texts), again)
	}
}
